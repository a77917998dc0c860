/-
  What is proved here: Step of package cpu.
  Conditions: as they say.
-/
import Derived.Test.YtkhfmgifpppcmaaDoorCpuP
namespace Go.Proofs.YtkhfmgifpppcmaaDoor
open Go.RowKit
set_option linter.unusedVariables false
set_option linter.unusedSimpArgs false

set_option maxRecDepth 100000 in
theorem frCStep (y : Nat → Value) : frameOf 98 y = #[y 0, y 1, y 2, y 3, y 4, y 5, y 6, y 7, y 8, y 9, y 10, y 11, y 12, y 13, y 14, y 15, y 16, y 17, y 18, y 19, y 20, y 21, y 22, y 23, y 24, y 25, y 26, y 27, y 28, y 29, y 30, y 31, y 32, y 33, y 34, y 35, y 36, y 37, y 38, y 39, y 40, y 41, y 42, y 43, y 44, y 45, y 46, y 47, y 48, y 49, y 50, y 51, y 52, y 53, y 54, y 55, y 56, y 57, y 58, y 59, y 60, y 61, y 62, y 63, y 64, y 65, y 66, y 67, y 68, y 69, y 70, y 71, y 72, y 73, y 74, y 75, y 76, y 77, y 78, y 79, y 80, y 81, y 82, y 83, y 84, y 85, y 86, y 87, y 88, y 89, y 90, y 91, y 92, y 93, y 94, y 95, y 96, y 97] := rfl
set_option maxHeartbeats 12800000 in
set_option maxRecDepth 100000 in
theorem step_ok (s : St) (hs : s.Ok) {w : World} (hT : Tb w) {S : VS} {M : List Pg} {c0 : Nat} (h : VAt w S M c0) :
    Calls Tryd.prog 9 #[.agg s.C, ptrV S.g] w fun r w' => r = .returned (.tuple #[.agg (stepC s M).1.C, .agg (stepC s M).2.2.C]) ∧ TurnV S w w' ∧ VAt w' S (stepC s M).2.1 c0 := by
  have HH := Lib.hid h
  have HTB := Lib.hid hT
  have HL := Lib.hid hs.len
  have HS := Lib.hid hs
  have hp0 : ((s.pc.toNat : Nat) : Int) = s.pc := Int.toNat_of_nonneg hs.p0
  have HF : Hid (∀ wx, Below w.heap.size w wx → Calls Tryd.prog 17 #[ptrV S.g, .int .u64 s.pc] wx fun e w' => e = .returned (.tuple #[.int .u64 (fetchR M s.pc.toNat).1, .int .i64 (fetchR M s.pc.toNat).2]) ∧ Below wx.heap.size wx w') := Lib.hid (fun wx hb => by
    have h1 := Fetch_ok (h.below hb) s.pc.toNat (by have := hs.p1; omega)
    rw [hp0] at h1
    exact h1)
  have hfb := fetchR_bd h s.pc.toNat
  obtain ⟨R, hR⟩ : ∃ R, stepC s M = R := ⟨_, rfl⟩
  rw [hR]
  unfold stepC at hR
  obtain ⟨fw, hfw⟩ : ∃ x, (fetchR M s.pc.toNat).1 = x := ⟨_, rfl⟩
  obtain ⟨fe, hfe⟩ : ∃ x, (fetchR M s.pc.toNat).2 = x := ⟨_, rfl⟩
  rw [hfw] at HF hR hfb
  rw [hfe] at HF hR
  have HR := Lib.hid hR
  have HFB := Lib.hid hfb
  obtain ⟨mp, hmp⟩ : ∃ mp, ptrV S.g = mp := ⟨_, rfl⟩
  rw [hmp] at HF ⊢
  have HMP := Lib.hid hmp
  clear h hT hs hp0 hfb hR hfw hfe hmp
  obtain ⟨w1, hw1⟩ : ∃ w1, ((w.alloc (.cells s.C 26)).alloc (.cells St.zero.C 26)).alloc (.cells #[.int .i64 0, .int .i64 0, .int .u64 0] 36) = w1 := ⟨_, rfl⟩
  have hz1 : w1.heap.size = w.heap.size + 3 := by rw [← hw1]; simp
  have B0 : Hid (Blk w1 w.heap.size s.C 26) := Lib.hid (by
    rw [← hw1]
    have := Blk.new w s.C 26
    try simp only [World.size_alloc] at this
    exact ((this.alloc _).alloc _))
  have B1 : Hid (Blk w1 (w.heap.size + 1) St.zero.C 26) := Lib.hid (by
    rw [← hw1]
    have := Blk.new (w.alloc (.cells s.C 26)) St.zero.C 26
    try simp only [World.size_alloc] at this
    exact (this.alloc _))
  have B2 : Hid (Blk w1 (w.heap.size + 2) #[.int .i64 0, .int .i64 0, .int .u64 0] 36) := Lib.hid (by
    rw [← hw1]
    have := Blk.new ((w.alloc (.cells s.C 26)).alloc (.cells St.zero.C 26)) #[.int .i64 0, .int .i64 0, .int .u64 0] 36
    try simp only [World.size_alloc] at this
    exact this)
  have HB : Hid (Below w.heap.size w w1) := Lib.hid (by rw [← hw1]; exact ((((Below.refl _ _).alloc (by exact Nat.le_refl _) _).alloc (by simp only [World.size_alloc]; omega) _).alloc (by simp only [World.size_alloc]; omega) _))
  have c32 := (B0.out.cell 32).trans (St.cpc HL.out)
  go_enter Tryd.func9, Tryd.ntmps9
  go_wp2_with (first | (refine wpList_alloc_eq rfl 26 rfl St.zero.C zs_info ?_) | fail)
  clear hw1 hz1
  refine (HF.out _ HB.out).mono ?_
  rintro r5 w5 ⟨rfl, hb5⟩
  have HB5 : Hid (Below w.heap.size w w5) := Lib.hid (HB.out.trans (hb5.mono HB.out.size))
  have E0 := Lib.hid (B0.out.later hb5)
  have E1 := Lib.hid (B1.out.later hb5)
  have E2 := Lib.hid (B2.out.later hb5)
  clear hb5 B0 B1 B2 HB HF c32
  by_cases he : fe = 0
  · subst he
    have q := HR.out
    rw [if_pos rfl] at q
    have HR2 := Lib.hid q
    clear q HR
    have HDE := Lib.hid (idec_any fw w5 HFB.out.1 HFB.out.2 (HTB.out.later HB5.out))
    obtain ⟨i, hi⟩ : ∃ i, (decI fw).1 = i := ⟨_, rfl⟩
    obtain ⟨de, hde⟩ : ∃ d, (decI fw).2 = d := ⟨_, rfl⟩
    have hmay : de = 0 → mayI i = true := fun h0 => by rw [← hi]; exact dec_may (by rw [hde]; exact h0)
    rw [hi, hde] at HDE
    have hr2 := HR2.out
    rw [hi, hde] at hr2
    have HR3 := Lib.hid hr2
    have HMAY := Lib.hid hmay
    clear hr2 HR2 hmay hi hde HFB
    obtain ⟨op, ia, ib, ic, m⟩ := i
    unfold In.ival at HDE
    simp only at HDE
    go_wp2_with fail
    refine HDE.out.mono ?_
    rintro r6 w6 ⟨rfl, hb6⟩
    have HB6 : Hid (Below w.heap.size w w6) := Lib.hid (HB5.out.trans (hb6.mono HB5.out.size))
    have F0 := Lib.hid (E0.out.later hb6)
    have F1 := Lib.hid (E1.out.later hb6)
    have F2 := Lib.hid (E2.out.later hb6)
    have hw6 : w.heap.size + 2 < w6.heap.size := F2.out.lt
    obtain ⟨IC, hIC⟩ : ∃ IC : Array Value, #[.int .i64 op, .int .i64 ia, .int .i64 ib, .int .i64 ic, .int .i32 m] = IC := ⟨_, rfl⟩
    have HIC := Lib.hid hIC
    have HNB := Lib.hid (Blk.new w6 #[.int .i64 0, .int .i64 0, .int .i64 0, .int .i64 0, .int .i32 0] 63)
    have HIS : Hid ((Tryd.prog.info? 63).map (·.size) = some IC.size) := Lib.hid (by rw [← hIC]; kernel_rfl)
    have HIZ : Hid ((#[.int .i64 0, .int .i64 0, .int .i64 0, .int .i64 0, .int .i32 0] : Array Value).size = IC.size) := Lib.hid (by rw [← hIC]; rfl)
    have HIO : Hid (IC.all (·.oneCell') = true) := Lib.hid (by rw [← hIC]; simp [Value.oneCell'])
    rw [hIC]
    clear hb6 E0 E1 E2 HB5 HDE hIC
    obtain ⟨w7, hw7⟩ : ∃ w7, w6.alloc (.cells IC 63) = w7 := ⟨_, rfl⟩
    have HI7 : Hid (Blk w7 w6.heap.size IC 63) := Lib.hid (by rw [← hw7]; exact Blk.new _ _ _)
    have hb67 : Below w6.heap.size w6 w7 := by rw [← hw7]; exact (Below.refl _ _).alloc (Nat.le_refl _) _
    have HB7 : Hid (Below w.heap.size w w7) := Lib.hid (HB6.out.trans (hb67.mono HB6.out.size))
    have G0 := Lib.hid (F0.out.later hb67)
    have G1 := Lib.hid (F1.out.later hb67)
    have G2 := Lib.hid (F2.out.later hb67)
    have HT7 := Lib.hid (HTB.out.later HB7.out)
    have HV7 := Lib.hid (HH.out.below HB7.out)
    have hi0 : w7.cell? ⟨w6.heap.size, 0, none⟩ = some (.int .i64 op) := by rw [Blk.cell HI7.out 0, ← HIC.out]; rfl
    have hi4 : IC[4]? = some (.int .i32 m) := by rw [← HIC.out]; rfl
    clear hb67 F0 F1 F2 HB6
    by_cases hd : de = 0
    · subst hd
      have q := HR3.out
      rw [if_pos rfl] at q
      have HRD := Lib.hid q
      have hm := HMAY.out rfl
      have HWY := Lib.hid (op_ways hm)
      obtain ⟨-, ⟨a0, a1⟩, ⟨b0, b1⟩, ⟨cc0, cc1⟩, -⟩ := mayI_bd hm
      simp only at a0 a1 b0 b1 cc0 cc1 HWY
      obtain ⟨a, rfl⟩ := Int.eq_ofNat_of_zero_le a0
      obtain ⟨b, rfl⟩ := Int.eq_ofNat_of_zero_le b0
      obtain ⟨c, rfl⟩ := Int.eq_ofNat_of_zero_le cc0
      have ha : a < 32 := by omega
      have hb : b < 32 := by omega
      have hc : c < 32 := by omega
      have hlen : R.1.R.length = 32 := by rw [← q, doI_len]; exact HL.out
      have HSS := Lib.hid (st_size hlen)
      have HZZ := Lib.hid (zs_size hlen)
      have HOO := Lib.hid R.1.one
      have HOS := Lib.hid (oc_size R.2.2)
      have HOZ := Lib.hid (oc_z R.2.2)
      have HO1 := Lib.hid (oc_one R.2.2)
      have HNX := Lib.hid (next_ok s HL.out w7)
      have HOWN : Hid (∀ k, S.own k → k < w.heap.size) := Lib.hid (fun k hk => HH.out.sm k hk)
      clear q hm HR3 HMAY a0 a1 b0 b1 cc0 cc1 hlen HNB HIZ HIO
      rcases HWY.out with h | h | h | h | h | h | h | h | h | h
      · try simp only at h
        subst h
        have q := (doI_nop (s := s) (M := M) (i := ⟨1, (a : Int), (b : Int), (c : Int), m⟩) rfl).symm.trans HRD.out
        have HQ1 : Hid (_ = R.1) := Lib.hid (congrArg (·.1) q)
        have HM1 : Hid (R.2.1 = M) := Lib.hid (congrArg (·.2.1) q).symm
        have HQ2 : Hid (R.2.2.C = outC 0 0 0) := Lib.hid (congrArg (·.2.2.C) q).symm
        clear q
        have HN : Hid (Calls Tryd.prog 20 #[.agg s.C] w7 fun r w' => r = .returned (.agg R.1.C) ∧ Below w7.heap.size w7 w') := Lib.hid (by rw [← HQ1.out]; exact HNX.out)
        go_wp2_with (first | (refine wpList_alloc_eq rfl 63 rfl #[.int .i64 0, .int .i64 0, .int .i64 0, .int .i64 0, .int .i32 0] (by kernel_rfl) ?_) | (refine wpList_store_row rfl 63 _ _ rfl w6.heap.size IC rfl rfl _ _ (Blk.new w6 #[.int .i64 0, .int .i64 0, .int .i64 0, .int .i64 0, .int .i32 0] 63) HIS.out (by rw [← HIC.out]; rfl) (by rw [← HIC.out]; simp [Value.oneCell']) ?_; rw [alloc_setRow, hw7]) | (refine wpList_load_row rfl 26 _ rfl (w.heap.size) rfl _ (s.C) (0, 0) _ G0.out Tryd.underlying26 rfl (st_size HL.out) ?_) | (refine wpList_load_row rfl 63 _ rfl (w6.heap.size) rfl _ (IC) (0, 0) _ HI7.out Tryd.underlying63 rfl HIS.out ?_) | fail)
        clear hw7
        refine HN.out.mono ?_
        rintro r8 w8 ⟨rfl, hb8⟩
        have K1 := Lib.hid (G1.out.later hb8)
        have K2 := Lib.hid ((G2.out.later hb8).row_other (g := (w.heap.size + 1)) (C := R.1.C) (by omega))
        have HB8 : Hid (Below w.heap.size w w8) := Lib.hid (HB7.out.trans (hb8.mono HB7.out.size))
        clear hb8
        go_wp2_with (first | (refine wpList_store_row rfl 26 _ _ rfl ((w.heap.size + 1)) (R.1.C) rfl rfl _ _ K1.out HSS.out HZZ.out HOO.out ?_) | (refine wpList_store_row rfl 36 _ _ rfl ((w.heap.size + 2)) (outC 0 0 0) rfl rfl _ _ K2.out (by kernel_rfl) (by kernel_rfl) (out_one _ _ _) ?_))
        have M1 := (K1.out.row (C := R.1.C)).row_other (g := (w.heap.size + 2)) (C := outC 0 0 0) (by omega)
        have M2 := K2.out.row (C := outC 0 0 0)
        have hbe : Below w.heap.size w ((w8.setRow ((w.heap.size + 1)) R.1.C).setRow ((w.heap.size + 2)) (outC 0 0 0)) := below_row (below_row HB8.out (by omega) _) (by omega) _
        refine bodyPost_ret (v := .tuple #[.agg (R.1.C), .agg (outC 0 0 0)]) (results_two rfl _ _ ((w.heap.size + 1)) ((w.heap.size + 2)) _ _ (R.1.C) (outC 0 0 0) (0, 0) (0, 0) _ _ rfl rfl M1 M2 Tryd.underlying26 rfl HSS.out Tryd.underlying36 rfl (by kernel_rfl)) rfl ?_
        exact ⟨by rw [HQ2.out], TurnV.of_below hbe, by rw [HM1.out]; exact HH.out.below hbe⟩
      · have hop2 : (2 ≤ op ∧ op ≤ 18) ∨ op = 38 ∨ op = 39 := by omega
        obtain ⟨q1, q2, q3⟩ := doI_co (s := s) (M := M) (i := ⟨op, (a : Int), (b : Int), (c : Int), m⟩) hop2
        simp only [Int.toNat_natCast] at q1 q2 q3
        rw [HRD.out] at q1 q2 q3
        have HM1 := Lib.hid q2
        have HN : Hid (Calls Tryd.prog 26 #[.agg s.C, .agg IC] w7 fun r w' => r = .returned (.tuple #[.agg R.1.C, .agg R.2.2.C]) ∧ Below w7.heap.size w7 w') := Lib.hid (by rw [q1, q3, ← HIC.out]; exact compute_ok s HS.out op m a b c ha hb hc w7)
        clear q1 q2 q3
        have n1 : ¬ op = 1 := by omega
        have n20 : ¬ op = 20 := by omega
        have n21 : ¬ op = 21 := by omega
        have n22 : ¬ op = 22 := by omega
        have n23 : ¬ op = 23 := by omega
        have n24 : ¬ op = 24 := by omega
        have n25 : ¬ op = 25 := by omega
        have n26 : ¬ op = 26 := by omega
        have n27 : ¬ op = 27 := by omega
        have n30 : ¬ op = 30 := by omega
        have n31 : ¬ op = 31 := by omega
        have n32 : ¬ op = 32 := by omega
        have n33 : ¬ op = 33 := by omega
        have n34 : ¬ op = 34 := by omega
        have n35 : ¬ op = 35 := by omega
        have n36 : ¬ op = 36 := by omega
        have n37 : ¬ op = 37 := by omega
        have n40 : ¬ op = 40 := by omega
        have n41 : ¬ op = 41 := by omega
        have z1 : (op == 1) = false := by simp; omega
        have z20 : (op == 20) = false := by simp; omega
        have z21 : (op == 21) = false := by simp; omega
        have z22 : (op == 22) = false := by simp; omega
        have z23 : (op == 23) = false := by simp; omega
        have z24 : (op == 24) = false := by simp; omega
        have z25 : (op == 25) = false := by simp; omega
        have z26 : (op == 26) = false := by simp; omega
        have z27 : (op == 27) = false := by simp; omega
        have z30 : (op == 30) = false := by simp; omega
        have z31 : (op == 31) = false := by simp; omega
        have z32 : (op == 32) = false := by simp; omega
        have z33 : (op == 33) = false := by simp; omega
        have z34 : (op == 34) = false := by simp; omega
        have z35 : (op == 35) = false := by simp; omega
        have z36 : (op == 36) = false := by simp; omega
        have z37 : (op == 37) = false := by simp; omega
        have z40 : (op == 40) = false := by simp; omega
        have z41 : (op == 41) = false := by simp; omega
        clear h hop2
        go_wp2_with (first | (refine wpList_alloc_eq rfl 63 rfl #[.int .i64 0, .int .i64 0, .int .i64 0, .int .i64 0, .int .i32 0] (by kernel_rfl) ?_) | (refine wpList_store_row rfl 63 _ _ rfl w6.heap.size IC rfl rfl _ _ (Blk.new w6 #[.int .i64 0, .int .i64 0, .int .i64 0, .int .i64 0, .int .i32 0] 63) HIS.out (by rw [← HIC.out]; rfl) (by rw [← HIC.out]; simp [Value.oneCell']) ?_; rw [alloc_setRow, hw7]) | (refine wpList_load_row rfl 26 _ rfl (w.heap.size) rfl _ (s.C) (0, 0) _ G0.out Tryd.underlying26 rfl (st_size HL.out) ?_) | (refine wpList_load_row rfl 63 _ rfl (w6.heap.size) rfl _ (IC) (0, 0) _ HI7.out Tryd.underlying63 rfl HIS.out ?_) | fail)
        clear hw7
        refine HN.out.mono ?_
        rintro r8 w8 ⟨rfl, hb8⟩
        have K1 := Lib.hid (G1.out.later hb8)
        have K2 := Lib.hid ((G2.out.later hb8).row_other (g := (w.heap.size + 1)) (C := R.1.C) (by omega))
        have HB8 : Hid (Below w.heap.size w w8) := Lib.hid (HB7.out.trans (hb8.mono HB7.out.size))
        clear hb8
        go_wp2_with (first | (refine wpList_store_row rfl 26 _ _ rfl ((w.heap.size + 1)) (R.1.C) rfl rfl _ _ K1.out HSS.out HZZ.out HOO.out ?_) | (refine wpList_store_row rfl 36 _ _ rfl ((w.heap.size + 2)) (R.2.2.C) rfl rfl _ _ K2.out HOS.out HOZ.out HO1.out ?_))
        have M1 := (K1.out.row (C := R.1.C)).row_other (g := (w.heap.size + 2)) (C := R.2.2.C) (by omega)
        have M2 := K2.out.row (C := R.2.2.C)
        have hbe : Below w.heap.size w ((w8.setRow ((w.heap.size + 1)) R.1.C).setRow ((w.heap.size + 2)) (R.2.2.C)) := below_row (below_row HB8.out (by omega) _) (by omega) _
        refine bodyPost_ret (v := .tuple #[.agg (R.1.C), .agg (R.2.2.C)]) (results_two rfl _ _ ((w.heap.size + 1)) ((w.heap.size + 2)) _ _ (R.1.C) (R.2.2.C) (0, 0) (0, 0) _ _ rfl rfl M1 M2 Tryd.underlying26 rfl HSS.out Tryd.underlying36 rfl HOS.out) rfl ?_
        exact ⟨rfl, TurnV.of_below hbe, by rw [HM1.out]; exact HH.out.below hbe⟩
      · obtain ⟨o, rfl⟩ := Int.eq_ofNat_of_zero_le (show 0 ≤ op by omega)
        obtain ⟨x, hx⟩ : ∃ x, (loadR M (atI s ⟨(o : Int), (a : Int), (b : Int), (c : Int), m⟩) (sizesZ.getD o 0) 4) = x := ⟨_, rfl⟩
        obtain ⟨x, e⟩ := x
        obtain ⟨q1, q2, q3⟩ := doI_ld (s := s) (M := M) (i := ⟨(o : Int), (a : Int), (b : Int), (c : Int), m⟩) h hx
        have hat := at_nat s ⟨(o : Int), (a : Int), (b : Int), (c : Int), m⟩
        have hab := at_bd s ⟨(o : Int), (a : Int), (b : Int), (c : Int), m⟩
        rw [hat] at q3
        simp only [Int.toNat_natCast] at q1 q2 q3 hat
        rw [HRD.out] at q1 q2 q3
        have HM1 := Lib.hid q2
        have HN : Hid (Calls Tryd.prog 21 #[.agg s.C, .agg IC, mp] w7 fun r w' => r = .returned (.tuple #[.agg R.1.C, .agg R.2.2.C]) ∧ Below w7.heap.size w7 w') := Lib.hid (by
          rw [q1, q3, ← HIC.out]
          refine cload_ok s HS.out o m a b c ha hb (by omega) mp x e w7 HT7.out fun wx hbx => ?_
          have h1 := Load_ok (HV7.out.below hbx) _ (sizesZ.getD o 0) hab
          rw [hx, hat, HMP.out] at h1
          exact h1)
        clear q1 q2 q3 hx hat hab
        have ho : o = 20 ∨ o = 21 ∨ o = 22 ∨ o = 23 := by omega
        clear h
        rcases ho with rfl | rfl | rfl | rfl
        all_goals go_wp2_with (first | (refine wpList_alloc_eq rfl 63 rfl #[.int .i64 0, .int .i64 0, .int .i64 0, .int .i64 0, .int .i32 0] (by kernel_rfl) ?_) | (refine wpList_store_row rfl 63 _ _ rfl w6.heap.size IC rfl rfl _ _ (Blk.new w6 #[.int .i64 0, .int .i64 0, .int .i64 0, .int .i64 0, .int .i32 0] 63) HIS.out (by rw [← HIC.out]; rfl) (by rw [← HIC.out]; simp [Value.oneCell']) ?_; rw [alloc_setRow, hw7]) | (refine wpList_load_row rfl 26 _ rfl (w.heap.size) rfl _ (s.C) (0, 0) _ G0.out Tryd.underlying26 rfl (st_size HL.out) ?_) | (refine wpList_load_row rfl 63 _ rfl (w6.heap.size) rfl _ (IC) (0, 0) _ HI7.out Tryd.underlying63 rfl HIS.out ?_) | fail)
        all_goals clear hw7
        all_goals refine HN.out.mono ?_
        all_goals rintro r8 w8 ⟨rfl, hb8⟩
        all_goals
          have K1 := Lib.hid (G1.out.later hb8)
          have K2 := Lib.hid ((G2.out.later hb8).row_other (g := (w.heap.size + 1)) (C := R.1.C) (by omega))
          have HB8 : Hid (Below w.heap.size w w8) := Lib.hid (HB7.out.trans (hb8.mono HB7.out.size))
          clear hb8
          go_wp2_with (first | (refine wpList_store_row rfl 26 _ _ rfl ((w.heap.size + 1)) (R.1.C) rfl rfl _ _ K1.out HSS.out HZZ.out HOO.out ?_) | (refine wpList_store_row rfl 36 _ _ rfl ((w.heap.size + 2)) (R.2.2.C) rfl rfl _ _ K2.out HOS.out HOZ.out HO1.out ?_))
          have M1 := (K1.out.row (C := R.1.C)).row_other (g := (w.heap.size + 2)) (C := R.2.2.C) (by omega)
          have M2 := K2.out.row (C := R.2.2.C)
          have hbe : Below w.heap.size w ((w8.setRow ((w.heap.size + 1)) R.1.C).setRow ((w.heap.size + 2)) (R.2.2.C)) := below_row (below_row HB8.out (by omega) _) (by omega) _
          refine bodyPost_ret (v := .tuple #[.agg (R.1.C), .agg (R.2.2.C)]) (results_two rfl _ _ ((w.heap.size + 1)) ((w.heap.size + 2)) _ _ (R.1.C) (R.2.2.C) (0, 0) (0, 0) _ _ rfl rfl M1 M2 Tryd.underlying26 rfl HSS.out Tryd.underlying36 rfl HOS.out) rfl ?_
          exact ⟨rfl, TurnV.of_below hbe, by rw [HM1.out]; exact HH.out.below hbe⟩
      · obtain ⟨o, rfl⟩ := Int.eq_ofNat_of_zero_le (show 0 ≤ op by omega)
        obtain ⟨x, hx⟩ : ∃ x, (storeR M (atI s ⟨(o : Int), (a : Int), (b : Int), (c : Int), m⟩) (sizesZ.getD o 0) (s.R.getD a 0)) = x := ⟨_, rfl⟩
        obtain ⟨M2', e⟩ := x
        obtain ⟨q1, q2, q3⟩ := doI_st (s := s) (M := M) (i := ⟨(o : Int), (a : Int), (b : Int), (c : Int), m⟩) h hx
        have hat := at_nat s ⟨(o : Int), (a : Int), (b : Int), (c : Int), m⟩
        have hab := at_bd s ⟨(o : Int), (a : Int), (b : Int), (c : Int), m⟩
        rw [hat] at q3
        simp only [Int.toNat_natCast] at q1 q2 q3 hat
        rw [HRD.out] at q1 q2 q3
        have hrb := St.reg_bd HS.out a
        unfold St.reg at hrb
        rw [Int.toNat_natCast] at hrb
        have HN : Hid (Calls Tryd.prog 22 #[.agg s.C, .agg IC, mp] w7 fun r w' => r = .returned (.tuple #[.agg R.1.C, .agg R.2.2.C]) ∧ TurnV S w7 w' ∧ VAt w' S R.2.1 c0) := Lib.hid (by
          rw [q1, q3, q2, ← HIC.out]
          refine cstore_ok s HS.out o m a b c ha hb (by omega) mp e w7 HT7.out S (fun k hk => HV7.out.sm k hk) (fun x => VAt x S M2' c0) (fun x y hx hb => hx.same (fun k hk => hb.block k (HV7.out.sm k hk)) hb.size) fun wx hbx => ?_
          have h1 := Store_ok (HV7.out.below hbx) _ (sizesZ.getD o 0) (s.R.getD a 0) hab hrb.1 hrb.2
          rw [hx, hat, HMP.out] at h1
          exact h1.mono fun r w' e => ⟨e.1, e.2.2, e.2.1⟩)
        clear q1 q2 q3 hx hat hab hrb
        have ho : o = 24 ∨ o = 25 ∨ o = 26 ∨ o = 27 := by omega
        clear h
        rcases ho with rfl | rfl | rfl | rfl
        all_goals go_wp2_with (first | (refine wpList_alloc_eq rfl 63 rfl #[.int .i64 0, .int .i64 0, .int .i64 0, .int .i64 0, .int .i32 0] (by kernel_rfl) ?_) | (refine wpList_store_row rfl 63 _ _ rfl w6.heap.size IC rfl rfl _ _ (Blk.new w6 #[.int .i64 0, .int .i64 0, .int .i64 0, .int .i64 0, .int .i32 0] 63) HIS.out (by rw [← HIC.out]; rfl) (by rw [← HIC.out]; simp [Value.oneCell']) ?_; rw [alloc_setRow, hw7]) | (refine wpList_load_row rfl 26 _ rfl (w.heap.size) rfl _ (s.C) (0, 0) _ G0.out Tryd.underlying26 rfl (st_size HL.out) ?_) | (refine wpList_load_row rfl 63 _ rfl (w6.heap.size) rfl _ (IC) (0, 0) _ HI7.out Tryd.underlying63 rfl HIS.out ?_) | fail)
        all_goals clear hw7
        all_goals refine HN.out.mono ?_
        all_goals rintro r8 w8 ⟨rfl, ht8, hv8⟩
        all_goals
          have hno : ∀ k, w.heap.size ≤ k → ¬ S.own k := fun k hk hk2 => absurd (HOWN.out k hk2) (by omega)
          have K1 := Lib.hid (blk_same G1.out (ht8.block _ G1.out.lt (hno _ (by omega))))
          have K2 := Lib.hid ((blk_same G2.out (ht8.block _ G2.out.lt (hno _ (by omega)))).row_other (g := (w.heap.size + 1)) (C := R.1.C) (by omega))
          have HT8 := Lib.hid ht8
          have HV8 := Lib.hid hv8
          clear ht8 hv8 hno
          go_wp2_with (first | (refine wpList_store_row rfl 26 _ _ rfl ((w.heap.size + 1)) (R.1.C) rfl rfl _ _ K1.out HSS.out HZZ.out HOO.out ?_) | (refine wpList_store_row rfl 36 _ _ rfl ((w.heap.size + 2)) (R.2.2.C) rfl rfl _ _ K2.out HOS.out HOZ.out HO1.out ?_))
          have M1 := (K1.out.row (C := R.1.C)).row_other (g := (w.heap.size + 2)) (C := R.2.2.C) (by omega)
          have M2 := K2.out.row (C := R.2.2.C)
          have hsz : w.heap.size ≤ w8.heap.size := Nat.le_trans HB7.out.size HT8.out.size
          have hbe : Below w.heap.size w8 ((w8.setRow ((w.heap.size + 1)) R.1.C).setRow ((w.heap.size + 2)) (R.2.2.C)) := below_row (below_row (Below.refl _ _ |>.mono hsz) (by omega) _) (by omega) _
          refine bodyPost_ret (v := .tuple #[.agg (R.1.C), .agg (R.2.2.C)]) (results_two rfl _ _ ((w.heap.size + 1)) ((w.heap.size + 2)) _ _ (R.1.C) (R.2.2.C) (0, 0) (0, 0) _ _ rfl rfl M1 M2 Tryd.underlying26 rfl HSS.out Tryd.underlying36 rfl HOS.out) rfl ?_
          exact ⟨rfl, turn_row ((TurnV.of_below HB7.out).trans HT8.out) hbe (Nat.le_refl _) hsz, HV8.out.same (fun k hk => hbe.block k (HOWN.out k hk)) hbe.size⟩
      · have q := (doI_br (s := s) (M := M) (i := ⟨op, (a : Int), (b : Int), (c : Int), m⟩) h).symm.trans HRD.out
        have HQ1 : Hid (_ = R.1) := Lib.hid (congrArg (·.1) q)
        have HM1 : Hid (R.2.1 = M) := Lib.hid (congrArg (·.2.1) q).symm
        have HQ2 : Hid (R.2.2.C = outC 0 0 0) := Lib.hid (congrArg (·.2.2.C) q).symm
        clear q
        have HN : Hid (Calls Tryd.prog 23 #[.agg s.C, .agg IC] w7 fun r w' => r = .returned (.agg R.1.C) ∧ Below w7.heap.size w7 w') := Lib.hid (by rw [← HQ1.out, ← HIC.out]; exact branch_ok s HS.out op m a b c ha hb w7)
        have ho : op = 30 ∨ op = 31 ∨ op = 32 ∨ op = 33 := by omega
        clear h HQ1
        rcases ho with rfl | rfl | rfl | rfl
        all_goals go_wp2_with (first | (refine wpList_alloc_eq rfl 63 rfl #[.int .i64 0, .int .i64 0, .int .i64 0, .int .i64 0, .int .i32 0] (by kernel_rfl) ?_) | (refine wpList_store_row rfl 63 _ _ rfl w6.heap.size IC rfl rfl _ _ (Blk.new w6 #[.int .i64 0, .int .i64 0, .int .i64 0, .int .i64 0, .int .i32 0] 63) HIS.out (by rw [← HIC.out]; rfl) (by rw [← HIC.out]; simp [Value.oneCell']) ?_; rw [alloc_setRow, hw7]) | (refine wpList_load_row rfl 26 _ rfl (w.heap.size) rfl _ (s.C) (0, 0) _ G0.out Tryd.underlying26 rfl (st_size HL.out) ?_) | (refine wpList_load_row rfl 63 _ rfl (w6.heap.size) rfl _ (IC) (0, 0) _ HI7.out Tryd.underlying63 rfl HIS.out ?_) | fail)
        all_goals clear hw7
        all_goals refine HN.out.mono ?_
        all_goals rintro r8 w8 ⟨rfl, hb8⟩
        all_goals
          have K1 := Lib.hid (G1.out.later hb8)
          have K2 := Lib.hid ((G2.out.later hb8).row_other (g := (w.heap.size + 1)) (C := R.1.C) (by omega))
          have HB8 : Hid (Below w.heap.size w w8) := Lib.hid (HB7.out.trans (hb8.mono HB7.out.size))
          clear hb8
          go_wp2_with (first | (refine wpList_store_row rfl 26 _ _ rfl ((w.heap.size + 1)) (R.1.C) rfl rfl _ _ K1.out HSS.out HZZ.out HOO.out ?_) | (refine wpList_store_row rfl 36 _ _ rfl ((w.heap.size + 2)) (outC 0 0 0) rfl rfl _ _ K2.out (by kernel_rfl) (by kernel_rfl) (out_one _ _ _) ?_))
          have M1 := (K1.out.row (C := R.1.C)).row_other (g := (w.heap.size + 2)) (C := outC 0 0 0) (by omega)
          have M2 := K2.out.row (C := outC 0 0 0)
          have hbe : Below w.heap.size w ((w8.setRow ((w.heap.size + 1)) R.1.C).setRow ((w.heap.size + 2)) (outC 0 0 0)) := below_row (below_row HB8.out (by omega) _) (by omega) _
          refine bodyPost_ret (v := .tuple #[.agg (R.1.C), .agg (outC 0 0 0)]) (results_two rfl _ _ ((w.heap.size + 1)) ((w.heap.size + 2)) _ _ (R.1.C) (outC 0 0 0) (0, 0) (0, 0) _ _ rfl rfl M1 M2 Tryd.underlying26 rfl HSS.out Tryd.underlying36 rfl (by kernel_rfl)) rfl ?_
          exact ⟨by rw [HQ2.out], TurnV.of_below hbe, by rw [HM1.out]; exact HH.out.below hbe⟩
      · have q := (doI_jm (s := s) (M := M) (i := ⟨op, (a : Int), (b : Int), (c : Int), m⟩) h).symm.trans HRD.out
        have HQ1 : Hid (_ = R.1) := Lib.hid (congrArg (·.1) q)
        have HM1 : Hid (R.2.1 = M) := Lib.hid (congrArg (·.2.1) q).symm
        have HQ2 : Hid (R.2.2.C = outC 0 0 0) := Lib.hid (congrArg (·.2.2.C) q).symm
        clear q
        have HN : Hid (Calls Tryd.prog 24 #[.agg s.C, .agg IC] w7 fun r w' => r = .returned (.agg R.1.C) ∧ Below w7.heap.size w7 w') := Lib.hid (by rw [← HQ1.out, ← HIC.out]; exact jump_ok s HS.out op m (by omega) a b c ha hb w7)
        have ho : op = 34 ∨ op = 35 ∨ op = 36 ∨ op = 37 := by omega
        clear h HQ1
        rcases ho with rfl | rfl | rfl | rfl
        all_goals go_wp2_with (first | (refine wpList_alloc_eq rfl 63 rfl #[.int .i64 0, .int .i64 0, .int .i64 0, .int .i64 0, .int .i32 0] (by kernel_rfl) ?_) | (refine wpList_store_row rfl 63 _ _ rfl w6.heap.size IC rfl rfl _ _ (Blk.new w6 #[.int .i64 0, .int .i64 0, .int .i64 0, .int .i64 0, .int .i32 0] 63) HIS.out (by rw [← HIC.out]; rfl) (by rw [← HIC.out]; simp [Value.oneCell']) ?_; rw [alloc_setRow, hw7]) | (refine wpList_load_row rfl 26 _ rfl (w.heap.size) rfl _ (s.C) (0, 0) _ G0.out Tryd.underlying26 rfl (st_size HL.out) ?_) | (refine wpList_load_row rfl 63 _ rfl (w6.heap.size) rfl _ (IC) (0, 0) _ HI7.out Tryd.underlying63 rfl HIS.out ?_) | fail)
        all_goals clear hw7
        all_goals refine HN.out.mono ?_
        all_goals rintro r8 w8 ⟨rfl, hb8⟩
        all_goals
          have K1 := Lib.hid (G1.out.later hb8)
          have K2 := Lib.hid ((G2.out.later hb8).row_other (g := (w.heap.size + 1)) (C := R.1.C) (by omega))
          have HB8 : Hid (Below w.heap.size w w8) := Lib.hid (HB7.out.trans (hb8.mono HB7.out.size))
          clear hb8
          go_wp2_with (first | (refine wpList_store_row rfl 26 _ _ rfl ((w.heap.size + 1)) (R.1.C) rfl rfl _ _ K1.out HSS.out HZZ.out HOO.out ?_) | (refine wpList_store_row rfl 36 _ _ rfl ((w.heap.size + 2)) (outC 0 0 0) rfl rfl _ _ K2.out (by kernel_rfl) (by kernel_rfl) (out_one _ _ _) ?_))
          have M1 := (K1.out.row (C := R.1.C)).row_other (g := (w.heap.size + 2)) (C := outC 0 0 0) (by omega)
          have M2 := K2.out.row (C := outC 0 0 0)
          have hbe : Below w.heap.size w ((w8.setRow ((w.heap.size + 1)) R.1.C).setRow ((w.heap.size + 2)) (outC 0 0 0)) := below_row (below_row HB8.out (by omega) _) (by omega) _
          refine bodyPost_ret (v := .tuple #[.agg (R.1.C), .agg (outC 0 0 0)]) (results_two rfl _ _ ((w.heap.size + 1)) ((w.heap.size + 2)) _ _ (R.1.C) (outC 0 0 0) (0, 0) (0, 0) _ _ rfl rfl M1 M2 Tryd.underlying26 rfl HSS.out Tryd.underlying36 rfl (by kernel_rfl)) rfl ?_
          exact ⟨by rw [HQ2.out], TurnV.of_below hbe, by rw [HM1.out]; exact HH.out.below hbe⟩
      · have hop2 : (2 ≤ op ∧ op ≤ 18) ∨ op = 38 ∨ op = 39 := by omega
        obtain ⟨q1, q2, q3⟩ := doI_co (s := s) (M := M) (i := ⟨op, (a : Int), (b : Int), (c : Int), m⟩) hop2
        simp only [Int.toNat_natCast] at q1 q2 q3
        rw [HRD.out] at q1 q2 q3
        have HM1 := Lib.hid q2
        have HN : Hid (Calls Tryd.prog 26 #[.agg s.C, .agg IC] w7 fun r w' => r = .returned (.tuple #[.agg R.1.C, .agg R.2.2.C]) ∧ Below w7.heap.size w7 w') := Lib.hid (by rw [q1, q3, ← HIC.out]; exact compute_ok s HS.out op m a b c ha hb hc w7)
        clear q1 q2 q3
        have n1 : ¬ op = 1 := by omega
        have n20 : ¬ op = 20 := by omega
        have n21 : ¬ op = 21 := by omega
        have n22 : ¬ op = 22 := by omega
        have n23 : ¬ op = 23 := by omega
        have n24 : ¬ op = 24 := by omega
        have n25 : ¬ op = 25 := by omega
        have n26 : ¬ op = 26 := by omega
        have n27 : ¬ op = 27 := by omega
        have n30 : ¬ op = 30 := by omega
        have n31 : ¬ op = 31 := by omega
        have n32 : ¬ op = 32 := by omega
        have n33 : ¬ op = 33 := by omega
        have n34 : ¬ op = 34 := by omega
        have n35 : ¬ op = 35 := by omega
        have n36 : ¬ op = 36 := by omega
        have n37 : ¬ op = 37 := by omega
        have n40 : ¬ op = 40 := by omega
        have n41 : ¬ op = 41 := by omega
        have z1 : (op == 1) = false := by simp; omega
        have z20 : (op == 20) = false := by simp; omega
        have z21 : (op == 21) = false := by simp; omega
        have z22 : (op == 22) = false := by simp; omega
        have z23 : (op == 23) = false := by simp; omega
        have z24 : (op == 24) = false := by simp; omega
        have z25 : (op == 25) = false := by simp; omega
        have z26 : (op == 26) = false := by simp; omega
        have z27 : (op == 27) = false := by simp; omega
        have z30 : (op == 30) = false := by simp; omega
        have z31 : (op == 31) = false := by simp; omega
        have z32 : (op == 32) = false := by simp; omega
        have z33 : (op == 33) = false := by simp; omega
        have z34 : (op == 34) = false := by simp; omega
        have z35 : (op == 35) = false := by simp; omega
        have z36 : (op == 36) = false := by simp; omega
        have z37 : (op == 37) = false := by simp; omega
        have z40 : (op == 40) = false := by simp; omega
        have z41 : (op == 41) = false := by simp; omega
        clear h hop2
        go_wp2_with (first | (refine wpList_alloc_eq rfl 63 rfl #[.int .i64 0, .int .i64 0, .int .i64 0, .int .i64 0, .int .i32 0] (by kernel_rfl) ?_) | (refine wpList_store_row rfl 63 _ _ rfl w6.heap.size IC rfl rfl _ _ (Blk.new w6 #[.int .i64 0, .int .i64 0, .int .i64 0, .int .i64 0, .int .i32 0] 63) HIS.out (by rw [← HIC.out]; rfl) (by rw [← HIC.out]; simp [Value.oneCell']) ?_; rw [alloc_setRow, hw7]) | (refine wpList_load_row rfl 26 _ rfl (w.heap.size) rfl _ (s.C) (0, 0) _ G0.out Tryd.underlying26 rfl (st_size HL.out) ?_) | (refine wpList_load_row rfl 63 _ rfl (w6.heap.size) rfl _ (IC) (0, 0) _ HI7.out Tryd.underlying63 rfl HIS.out ?_) | fail)
        clear hw7
        refine HN.out.mono ?_
        rintro r8 w8 ⟨rfl, hb8⟩
        have K1 := Lib.hid (G1.out.later hb8)
        have K2 := Lib.hid ((G2.out.later hb8).row_other (g := (w.heap.size + 1)) (C := R.1.C) (by omega))
        have HB8 : Hid (Below w.heap.size w w8) := Lib.hid (HB7.out.trans (hb8.mono HB7.out.size))
        clear hb8
        go_wp2_with (first | (refine wpList_store_row rfl 26 _ _ rfl ((w.heap.size + 1)) (R.1.C) rfl rfl _ _ K1.out HSS.out HZZ.out HOO.out ?_) | (refine wpList_store_row rfl 36 _ _ rfl ((w.heap.size + 2)) (R.2.2.C) rfl rfl _ _ K2.out HOS.out HOZ.out HO1.out ?_))
        have M1 := (K1.out.row (C := R.1.C)).row_other (g := (w.heap.size + 2)) (C := R.2.2.C) (by omega)
        have M2 := K2.out.row (C := R.2.2.C)
        have hbe : Below w.heap.size w ((w8.setRow ((w.heap.size + 1)) R.1.C).setRow ((w.heap.size + 2)) (R.2.2.C)) := below_row (below_row HB8.out (by omega) _) (by omega) _
        refine bodyPost_ret (v := .tuple #[.agg (R.1.C), .agg (R.2.2.C)]) (results_two rfl _ _ ((w.heap.size + 1)) ((w.heap.size + 2)) _ _ (R.1.C) (R.2.2.C) (0, 0) (0, 0) _ _ rfl rfl M1 M2 Tryd.underlying26 rfl HSS.out Tryd.underlying36 rfl HOS.out) rfl ?_
        exact ⟨rfl, TurnV.of_below hbe, by rw [HM1.out]; exact HH.out.below hbe⟩
      · have hop2 : (2 ≤ op ∧ op ≤ 18) ∨ op = 38 ∨ op = 39 := by omega
        obtain ⟨q1, q2, q3⟩ := doI_co (s := s) (M := M) (i := ⟨op, (a : Int), (b : Int), (c : Int), m⟩) hop2
        simp only [Int.toNat_natCast] at q1 q2 q3
        rw [HRD.out] at q1 q2 q3
        have HM1 := Lib.hid q2
        have HN : Hid (Calls Tryd.prog 26 #[.agg s.C, .agg IC] w7 fun r w' => r = .returned (.tuple #[.agg R.1.C, .agg R.2.2.C]) ∧ Below w7.heap.size w7 w') := Lib.hid (by rw [q1, q3, ← HIC.out]; exact compute_ok s HS.out op m a b c ha hb hc w7)
        clear q1 q2 q3
        have n1 : ¬ op = 1 := by omega
        have n20 : ¬ op = 20 := by omega
        have n21 : ¬ op = 21 := by omega
        have n22 : ¬ op = 22 := by omega
        have n23 : ¬ op = 23 := by omega
        have n24 : ¬ op = 24 := by omega
        have n25 : ¬ op = 25 := by omega
        have n26 : ¬ op = 26 := by omega
        have n27 : ¬ op = 27 := by omega
        have n30 : ¬ op = 30 := by omega
        have n31 : ¬ op = 31 := by omega
        have n32 : ¬ op = 32 := by omega
        have n33 : ¬ op = 33 := by omega
        have n34 : ¬ op = 34 := by omega
        have n35 : ¬ op = 35 := by omega
        have n36 : ¬ op = 36 := by omega
        have n37 : ¬ op = 37 := by omega
        have n40 : ¬ op = 40 := by omega
        have n41 : ¬ op = 41 := by omega
        have z1 : (op == 1) = false := by simp; omega
        have z20 : (op == 20) = false := by simp; omega
        have z21 : (op == 21) = false := by simp; omega
        have z22 : (op == 22) = false := by simp; omega
        have z23 : (op == 23) = false := by simp; omega
        have z24 : (op == 24) = false := by simp; omega
        have z25 : (op == 25) = false := by simp; omega
        have z26 : (op == 26) = false := by simp; omega
        have z27 : (op == 27) = false := by simp; omega
        have z30 : (op == 30) = false := by simp; omega
        have z31 : (op == 31) = false := by simp; omega
        have z32 : (op == 32) = false := by simp; omega
        have z33 : (op == 33) = false := by simp; omega
        have z34 : (op == 34) = false := by simp; omega
        have z35 : (op == 35) = false := by simp; omega
        have z36 : (op == 36) = false := by simp; omega
        have z37 : (op == 37) = false := by simp; omega
        have z40 : (op == 40) = false := by simp; omega
        have z41 : (op == 41) = false := by simp; omega
        clear h hop2
        go_wp2_with (first | (refine wpList_alloc_eq rfl 63 rfl #[.int .i64 0, .int .i64 0, .int .i64 0, .int .i64 0, .int .i32 0] (by kernel_rfl) ?_) | (refine wpList_store_row rfl 63 _ _ rfl w6.heap.size IC rfl rfl _ _ (Blk.new w6 #[.int .i64 0, .int .i64 0, .int .i64 0, .int .i64 0, .int .i32 0] 63) HIS.out (by rw [← HIC.out]; rfl) (by rw [← HIC.out]; simp [Value.oneCell']) ?_; rw [alloc_setRow, hw7]) | (refine wpList_load_row rfl 26 _ rfl (w.heap.size) rfl _ (s.C) (0, 0) _ G0.out Tryd.underlying26 rfl (st_size HL.out) ?_) | (refine wpList_load_row rfl 63 _ rfl (w6.heap.size) rfl _ (IC) (0, 0) _ HI7.out Tryd.underlying63 rfl HIS.out ?_) | fail)
        clear hw7
        refine HN.out.mono ?_
        rintro r8 w8 ⟨rfl, hb8⟩
        have K1 := Lib.hid (G1.out.later hb8)
        have K2 := Lib.hid ((G2.out.later hb8).row_other (g := (w.heap.size + 1)) (C := R.1.C) (by omega))
        have HB8 : Hid (Below w.heap.size w w8) := Lib.hid (HB7.out.trans (hb8.mono HB7.out.size))
        clear hb8
        go_wp2_with (first | (refine wpList_store_row rfl 26 _ _ rfl ((w.heap.size + 1)) (R.1.C) rfl rfl _ _ K1.out HSS.out HZZ.out HOO.out ?_) | (refine wpList_store_row rfl 36 _ _ rfl ((w.heap.size + 2)) (R.2.2.C) rfl rfl _ _ K2.out HOS.out HOZ.out HO1.out ?_))
        have M1 := (K1.out.row (C := R.1.C)).row_other (g := (w.heap.size + 2)) (C := R.2.2.C) (by omega)
        have M2 := K2.out.row (C := R.2.2.C)
        have hbe : Below w.heap.size w ((w8.setRow ((w.heap.size + 1)) R.1.C).setRow ((w.heap.size + 2)) (R.2.2.C)) := below_row (below_row HB8.out (by omega) _) (by omega) _
        refine bodyPost_ret (v := .tuple #[.agg (R.1.C), .agg (R.2.2.C)]) (results_two rfl _ _ ((w.heap.size + 1)) ((w.heap.size + 2)) _ _ (R.1.C) (R.2.2.C) (0, 0) (0, 0) _ _ rfl rfl M1 M2 Tryd.underlying26 rfl HSS.out Tryd.underlying36 rfl HOS.out) rfl ?_
        exact ⟨rfl, TurnV.of_below hbe, by rw [HM1.out]; exact HH.out.below hbe⟩
      · try simp only at h
        subst h
        have q := (doI_sy (s := s) (M := M) (i := ⟨40, (a : Int), (b : Int), (c : Int), m⟩) rfl).symm.trans HRD.out
        have HQ1 : Hid (_ = R.1) := Lib.hid (congrArg (·.1) q)
        have HM1 : Hid (R.2.1 = M) := Lib.hid (congrArg (·.2.1) q).symm
        have HQ2 : Hid (R.2.2.C = outC 1 0 0) := Lib.hid (congrArg (·.2.2.C) q).symm
        clear q
        have HN : Hid (Calls Tryd.prog 20 #[.agg s.C] w7 fun r w' => r = .returned (.agg R.1.C) ∧ Below w7.heap.size w7 w') := Lib.hid (by rw [← HQ1.out]; exact HNX.out)
        go_wp2_with (first | (refine wpList_alloc_eq rfl 63 rfl #[.int .i64 0, .int .i64 0, .int .i64 0, .int .i64 0, .int .i32 0] (by kernel_rfl) ?_) | (refine wpList_store_row rfl 63 _ _ rfl w6.heap.size IC rfl rfl _ _ (Blk.new w6 #[.int .i64 0, .int .i64 0, .int .i64 0, .int .i64 0, .int .i32 0] 63) HIS.out (by rw [← HIC.out]; rfl) (by rw [← HIC.out]; simp [Value.oneCell']) ?_; rw [alloc_setRow, hw7]) | (refine wpList_load_row rfl 26 _ rfl (w.heap.size) rfl _ (s.C) (0, 0) _ G0.out Tryd.underlying26 rfl (st_size HL.out) ?_) | (refine wpList_load_row rfl 63 _ rfl (w6.heap.size) rfl _ (IC) (0, 0) _ HI7.out Tryd.underlying63 rfl HIS.out ?_) | fail)
        clear hw7
        refine HN.out.mono ?_
        rintro r8 w8 ⟨rfl, hb8⟩
        have K1 := Lib.hid (G1.out.later hb8)
        have K2 := Lib.hid ((G2.out.later hb8).row_other (g := (w.heap.size + 1)) (C := R.1.C) (by omega))
        have HB8 : Hid (Below w.heap.size w w8) := Lib.hid (HB7.out.trans (hb8.mono HB7.out.size))
        clear hb8
        go_wp2_with (first | (refine wpList_store_row rfl 26 _ _ rfl ((w.heap.size + 1)) (R.1.C) rfl rfl _ _ K1.out HSS.out HZZ.out HOO.out ?_) | (refine wpList_store_row rfl 36 _ _ rfl ((w.heap.size + 2)) (outC 1 0 0) rfl rfl _ _ K2.out (by kernel_rfl) (by kernel_rfl) (out_one _ _ _) ?_))
        have M1 := (K1.out.row (C := R.1.C)).row_other (g := (w.heap.size + 2)) (C := outC 1 0 0) (by omega)
        have M2 := K2.out.row (C := outC 1 0 0)
        have hbe : Below w.heap.size w ((w8.setRow ((w.heap.size + 1)) R.1.C).setRow ((w.heap.size + 2)) (outC 1 0 0)) := below_row (below_row HB8.out (by omega) _) (by omega) _
        refine bodyPost_ret (v := .tuple #[.agg (R.1.C), .agg (outC 1 0 0)]) (results_two rfl _ _ ((w.heap.size + 1)) ((w.heap.size + 2)) _ _ (R.1.C) (outC 1 0 0) (0, 0) (0, 0) _ _ rfl rfl M1 M2 Tryd.underlying26 rfl HSS.out Tryd.underlying36 rfl (by kernel_rfl)) rfl ?_
        exact ⟨by rw [HQ2.out], TurnV.of_below hbe, by rw [HM1.out]; exact HH.out.below hbe⟩
      · try simp only at h
        subst h
        have q := (doI_tr (s := s) (M := M) (i := ⟨41, (a : Int), (b : Int), (c : Int), m⟩) rfl).symm.trans HRD.out
        have HQ1 : Hid (_ = R.1) := Lib.hid (congrArg (·.1) q)
        have HM1 : Hid (R.2.1 = M) := Lib.hid (congrArg (·.2.1) q).symm
        have HQ2 : Hid (R.2.2.C = outC 2 0 (IntKind.u64.wrap m)) := Lib.hid (congrArg (·.2.2.C) q).symm
        clear q
        have HNT : Hid (∀ wx, Calls Tryd.prog 20 #[.agg s.C] wx fun r w' => r = .returned (.agg R.1.C) ∧ Below wx.heap.size wx w') := Lib.hid (fun wx => by rw [← HQ1.out]; exact next_ok s HL.out wx)
        have HNU : Hid (∀ wx, Calls Tryd.prog 25 #[.agg IC] wx fun r w' => r = .returned (.int .u64 (IntKind.u64.wrap m)) ∧ Below wx.heap.size wx w') := Lib.hid (fun wx => by rw [← HIC.out]; exact number_i ⟨41, a, b, c, m⟩ wx)
        have HD : Hid (Dist w.heap.size [(w.heap.size, s.C, 26), (w6.heap.size, IC, 63)] [(5, (w.heap.size + 1), 26, St.zero.C, R.1.C), (6, (w.heap.size + 2), 36, #[.int .i64 0, .int .i64 0, .int .u64 0], (outC 2 0 (IntKind.u64.wrap m)))]) := Lib.hid ⟨by (intro r hr; simp only [List.mem_cons, List.not_mem_nil, or_false] at hr; rcases hr with rfl | rfl <;> refine ⟨(by dsimp only; omega), fun f hf => ?_⟩ <;> simp only [List.mem_cons, List.not_mem_nil, or_false] at hf <;> (rcases hf with rfl | rfl) <;> dsimp only <;> omega), by (intro r hr q hq h; simp only [List.mem_cons, List.not_mem_nil, or_false] at hr hq; rcases hr with rfl | rfl <;> rcases hq with rfl | rfl <;> first | rfl | (exfalso; simp at h; done) | (exfalso; simp at h; omega))⟩
        go_wp2_with (first | (refine wpList_alloc_eq rfl 63 rfl #[.int .i64 0, .int .i64 0, .int .i64 0, .int .i64 0, .int .i32 0] (by kernel_rfl) ?_) | (refine wpList_store_row rfl 63 _ _ rfl w6.heap.size IC rfl rfl _ _ (Blk.new w6 #[.int .i64 0, .int .i64 0, .int .i64 0, .int .i64 0, .int .i32 0] 63) HIS.out (by rw [← HIC.out]; rfl) (by rw [← HIC.out]; simp [Value.oneCell']) ?_; rw [alloc_setRow, hw7]) | (refine wpList_load_row rfl 26 _ rfl (w.heap.size) rfl _ (s.C) (0, 0) _ G0.out Tryd.underlying26 rfl (st_size HL.out) ?_) | (refine wpList_load_row rfl 63 _ rfl (w6.heap.size) rfl _ (IC) (0, 0) _ HI7.out Tryd.underlying63 rfl HIS.out ?_) | fail)
        clear hw7
        refine wp_region_a (by kernel_rfl) 98 rfl [88, 89, 90, 91, 92, 98, 99] (fun _ _ => True) (factsOf [Is (.agg (s.C)), Is (.agg (R.1.C)), Is (.agg (IC)), Is (.int .u64 (IntKind.u64.wrap m)), Is (.agg (outC 2 0 (IntKind.u64.wrap m))), AnyB, AnyB]) (JA [5, 6] [] (fun L _ w9 => PR (w.heap.size) w [(w.heap.size, s.C, 26), (w6.heap.size, IC, 63)] [(5, (w.heap.size + 1), 26, St.zero.C, R.1.C), (6, (w.heap.size + 2), 36, #[.int .i64 0, .int .i64 0, .int .u64 0], (outC 2 0 (IntKind.u64.wrap m)))] L w9)) ?mono33 ?hj33 (by kernel_rfl) ?start33 ?steps33 ?fin33
        case mono33 => exact factsOf_monoR (monoR_cons (Is.monoR _ _) (monoR_cons (Is.monoR _ _) (monoR_cons (Is.monoR _ _) (monoR_cons (Is.monoR _ _) (monoR_cons (Is.monoR _ _) (monoR_cons (AnyB.monoR _) (monoR_cons (AnyB.monoR _) (monoR_nil _))))))))
        case hj33 => exact JA.congr (by decide)
        case start33 =>
          refine JA.of fun L' y' h1 h2 => ?_
          exact ⟨(Nat.le_refl _), Below.drew (HB7.out), (List.forall_mem_cons.2 ⟨Blk.drew (G0.out), (List.forall_mem_cons.2 ⟨Blk.drew (HI7.out), (fun _ h => by cases h)⟩)⟩), (List.forall_mem_cons.2 ⟨PR.ini (h1 5 (by decide)) (Blk.drew (G1.out)), (List.forall_mem_cons.2 ⟨PR.ini (h1 6 (by decide)) (Blk.drew (G2.out)), (fun _ h => by cases h)⟩)⟩)⟩
        case fin33 =>
          intro y L w9 hJ hall hF hT
          have HP := Lib.hid hJ.out
          have HR0 := Lib.hid (PR.done (i := 5) HP.out (List.mem_iff_getElem?.2 ⟨0, rfl⟩) (hall 5 (by decide)))
          have HR1 := Lib.hid (PR.done (i := 6) HP.out (List.mem_iff_getElem?.2 ⟨1, rfl⟩) (hall 6 (by decide)))
          clear hJ hF hall
          rw [frCStep]
          simp only [hT 0 (by decide), hT 1 (by decide), hT 2 (by decide), hT 3 (by decide), hT 4 (by decide), hT 5 (by decide), hT 6 (by decide), hT 7 (by decide), hT 8 (by decide), hT 9 (by decide), hT 10 (by decide), hT 11 (by decide), hT 12 (by decide), hT 13 (by decide), hT 14 (by decide), hT 15 (by decide), hT 16 (by decide), hT 17 (by decide), hT 18 (by decide), hT 19 (by decide), hT 20 (by decide), hT 21 (by decide), hT 22 (by decide), hT 23 (by decide), hT 24 (by decide), hT 25 (by decide), hT 26 (by decide), hT 27 (by decide), hT 28 (by decide), hT 29 (by decide), hT 30 (by decide), hT 31 (by decide), hT 32 (by decide), hT 33 (by decide), hT 34 (by decide), hT 35 (by decide), hT 36 (by decide), hT 37 (by decide), hT 38 (by decide), hT 39 (by decide), hT 40 (by decide), hT 41 (by decide), hT 42 (by decide), hT 43 (by decide), hT 44 (by decide), hT 45 (by decide), hT 46 (by decide), hT 47 (by decide), hT 48 (by decide), hT 49 (by decide), hT 50 (by decide), hT 51 (by decide), hT 52 (by decide), hT 53 (by decide), hT 54 (by decide), hT 55 (by decide), hT 56 (by decide), hT 57 (by decide), hT 58 (by decide), hT 59 (by decide), hT 60 (by decide), hT 61 (by decide), hT 62 (by decide), hT 63 (by decide), hT 64 (by decide), hT 65 (by decide), hT 66 (by decide), hT 67 (by decide), hT 68 (by decide), hT 69 (by decide), hT 70 (by decide), hT 71 (by decide), hT 72 (by decide), hT 73 (by decide), hT 74 (by decide), hT 75 (by decide), hT 76 (by decide), hT 77 (by decide), hT 78 (by decide), hT 79 (by decide), hT 80 (by decide), hT 81 (by decide), hT 82 (by decide), hT 83 (by decide), hT 84 (by decide), hT 85 (by decide), hT 86 (by decide), hT 87 (by decide), hT 93 (by decide), hT 94 (by decide), hT 95 (by decide), hT 96 (by decide), hT 97 (by decide), List.getD_cons_succ, List.getD_cons_zero]
          clear hT 
          go_wp2
          refine bodyPost_ret (v := .tuple #[.agg (R.1.C), .agg (outC 2 0 (IntKind.u64.wrap m))]) (results_two rfl _ _ ((w.heap.size + 1)) ((w.heap.size + 2)) _ _ (R.1.C) (outC 2 0 (IntKind.u64.wrap m)) (0, 0) (0, 0) _ _ rfl rfl HR0.out HR1.out Tryd.underlying26 rfl HSS.out Tryd.underlying36 rfl (by kernel_rfl)) rfl ?_
          exact ⟨by rw [HQ2.out], TurnV.of_below HP.out.bel, by rw [HM1.out]; exact HH.out.below HP.out.bel⟩
        case steps33 =>
          refine ⟨?_, ?_, ?_, ?_, ?_, ?_, ?_, trivial⟩
          all_goals intro L y w9 hJ hL hy0 hp0 hcl hun
          all_goals have hy := Lib.hid hy0
          all_goals have hp := Lib.hid hp0
          all_goals have HJ := Lib.hid hJ
          all_goals have HP := Lib.hid hJ.out
          all_goals have hU := Lib.hid hun
          all_goals clear hy0 hp0 hun hJ
          · have e1 : y 2 = .pointer (some ⟨w.heap.size, 0, none⟩) := hy.out 2 (by decide)
            intro K Q hK
            clear hcl hL
            have v1 := (eval_frame 98 y [] (t := 2) (by decide)).trans e1
            obtain ⟨A, hA⟩ : ∃ A, (⟨frameOf 98 y, []⟩ : Act) = A := ⟨_, rfl⟩
            rw [hA] at v1 hK ⊢
            clear hA hy hp
            refine wp_load_row 26 (.tmp 2) rfl (w.heap.size) v1 _ _ (0, 0) _ (HP.out.fx _ (List.mem_iff_getElem?.2 ⟨0, rfl⟩)) Tryd.underlying26 rfl (st_size HL.out) ?_
            exact hK _ _ ⟨trivial, fun _ => rfl, HJ.out.pure (by decide) (by decide)⟩
          · have e1 : y 88 = .agg (s.C) := (hp.out 0 (by decide)).2 (by decide)
            intro K Q hK
            clear hcl hL
            have v1 := (eval_frame 98 y [] (t := 88) (by decide)).trans e1
            obtain ⟨A, hA⟩ : ∃ A, (⟨frameOf 98 y, []⟩ : Act) = A := ⟨_, rfl⟩
            rw [hA] at v1 hK ⊢
            clear hA hy hp
            simp only [Act.eval] at v1
            go_simp
            refine (HNT.out _).mono ?_
            rintro r w5 ⟨rfl, hb5⟩
            exact hK _ _ ⟨trivial, fun _ => rfl, JA.step fun L' y' h1 h2 h3 h4 => PR.later (S := [5, 6]) HP.out hb5 rfl (by decide) h1⟩
          · have e1 : y 8 = .pointer (some ⟨w6.heap.size, 0, none⟩) := hy.out 8 (by decide)
            intro K Q hK
            clear hcl hL
            have v1 := (eval_frame 98 y [] (t := 8) (by decide)).trans e1
            obtain ⟨A, hA⟩ : ∃ A, (⟨frameOf 98 y, []⟩ : Act) = A := ⟨_, rfl⟩
            rw [hA] at v1 hK ⊢
            clear hA hy hp
            refine wp_load_row 63 (.tmp 8) rfl (w6.heap.size) v1 _ _ (0, 0) _ (HP.out.fx _ (List.mem_iff_getElem?.2 ⟨1, rfl⟩)) Tryd.underlying63 rfl HIS.out ?_
            exact hK _ _ ⟨trivial, fun _ => rfl, HJ.out.pure (by decide) (by decide)⟩
          · have e1 : y 90 = .agg (IC) := (hp.out 2 (by decide)).2 (by decide)
            intro K Q hK
            clear hcl hL
            have v1 := (eval_frame 98 y [] (t := 90) (by decide)).trans e1
            obtain ⟨A, hA⟩ : ∃ A, (⟨frameOf 98 y, []⟩ : Act) = A := ⟨_, rfl⟩
            rw [hA] at v1 hK ⊢
            clear hA hy hp
            simp only [Act.eval] at v1
            go_simp
            refine (HNU.out _).mono ?_
            rintro r w5 ⟨rfl, hb5⟩
            exact hK _ _ ⟨trivial, fun _ => rfl, JA.step fun L' y' h1 h2 h3 h4 => PR.later (S := [5, 6]) HP.out hb5 rfl (by decide) h1⟩
          · have e1 : y 91 = .int .u64 (IntKind.u64.wrap m) := (hp.out 3 (by decide)).2 (by decide)
            intro K Q hK
            clear hcl hL
            have v1 := (eval_frame 98 y [] (t := 91) (by decide)).trans e1
            obtain ⟨A, hA⟩ : ∃ A, (⟨frameOf 98 y, []⟩ : Act) = A := ⟨_, rfl⟩
            rw [hA] at v1 hK ⊢
            clear hA hy hp
            simp only [Act.eval] at v1
            rw [Array.getD_eq_getD_getElem?] at v1
            go_simp
            exact hK _ _ ⟨trivial, fun _ => rfl, HJ.out.pure (by decide) (by decide)⟩
          · have e1 : y 4 = .pointer (some ⟨(w.heap.size + 1), 0, none⟩) := hy.out 4 (by decide)
            have e2 : y 89 = .agg (R.1.C) := (hp.out 1 (by decide)).2 (by decide)
            have hN5 : L 5 = false := hL
            intro K Q hK
            clear hcl hL
            have v1 := (eval_frame 98 y [] (t := 4) (by decide)).trans e1
            have v2 := (eval_frame 98 y [] (t := 89) (by decide)).trans e2
            obtain ⟨A, hA⟩ : ∃ A, (⟨frameOf 98 y, []⟩ : Act) = A := ⟨_, rfl⟩
            rw [hA] at v1 v2 hK ⊢
            clear hA hy hp
            refine wp_store_row 26 (.tmp 4) (.tmp 89) rfl ((w.heap.size + 1)) (R.1.C) v1 v2 _ _ (PR.todo (i := 5) HP.out (List.mem_iff_getElem?.2 ⟨0, rfl⟩) hN5) HSS.out HZZ.out HOO.out ?_
            exact hK undef _ ⟨trivial, fun h => absurd h (by decide), JA.step fun L' y' h1 h2 h3 h4 => PR.store (i := 5) HP.out HD.out (List.mem_iff_getElem?.2 ⟨0, rfl⟩) rfl (h2 (by decide)) h1⟩
          · have e1 : y 5 = .pointer (some ⟨(w.heap.size + 2), 0, none⟩) := hy.out 5 (by decide)
            have e2 : y 92 = .agg (outC 2 0 (IntKind.u64.wrap m)) := (hp.out 4 (by decide)).2 (by decide)
            have hN6 : L 6 = false := hL
            intro K Q hK
            clear hcl hL
            have v1 := (eval_frame 98 y [] (t := 5) (by decide)).trans e1
            have v2 := (eval_frame 98 y [] (t := 92) (by decide)).trans e2
            obtain ⟨A, hA⟩ : ∃ A, (⟨frameOf 98 y, []⟩ : Act) = A := ⟨_, rfl⟩
            rw [hA] at v1 v2 hK ⊢
            clear hA hy hp
            refine wp_store_row 36 (.tmp 5) (.tmp 92) rfl ((w.heap.size + 2)) ((outC 2 0 (IntKind.u64.wrap m))) v1 v2 _ _ (PR.todo (i := 6) HP.out (List.mem_iff_getElem?.2 ⟨1, rfl⟩) hN6) (by kernel_rfl) (by kernel_rfl) (out_one _ _ _) ?_
            exact hK undef _ ⟨trivial, fun h => absurd h (by decide), JA.step fun L' y' h1 h2 h3 h4 => PR.store (i := 6) HP.out HD.out (List.mem_iff_getElem?.2 ⟨1, rfl⟩) rfl (h2 (by decide)) h1⟩
    · have hdb : ¬ de = 0 := hd
      have q := HR3.out
      rw [if_neg hd] at q
      have HQ := Lib.hid q
      clear q HR3 HMAY
      have HD : Hid (Dist w.heap.size [(w.heap.size, s.C, 26)] [(4, (w.heap.size + 1), 26, St.zero.C, s.C), (5, (w.heap.size + 2), 36, #[.int .i64 0, .int .i64 0, .int .u64 0], (outC 3 42 s.pc))]) := Lib.hid ⟨by (intro r hr; simp only [List.mem_cons, List.not_mem_nil, or_false] at hr; rcases hr with rfl | rfl <;> refine ⟨(by dsimp only; omega), fun f hf => ?_⟩ <;> simp only [List.mem_cons, List.not_mem_nil, or_false] at hf <;> (rcases hf with rfl) <;> dsimp only <;> omega), by (intro r hr q hq h; simp only [List.mem_cons, List.not_mem_nil, or_false] at hr hq; rcases hr with rfl | rfl <;> rcases hq with rfl | rfl <;> first | rfl | (exfalso; simp at h; done) | (exfalso; simp at h; omega))⟩
      have HFA := Lib.hid (fun wx => fault_ok 42 s.pc wx)
      go_wp2_with (first | (refine wpList_alloc_eq rfl 63 rfl #[.int .i64 0, .int .i64 0, .int .i64 0, .int .i64 0, .int .i32 0] (by kernel_rfl) ?_) | (refine wpList_store_row rfl 63 _ _ rfl w6.heap.size IC rfl rfl _ _ (Blk.new w6 #[.int .i64 0, .int .i64 0, .int .i64 0, .int .i64 0, .int .i32 0] 63) HIS.out (by rw [← HIC.out]; rfl) (by rw [← HIC.out]; simp [Value.oneCell']) ?_; rw [alloc_setRow, hw7]) | (refine wpList_load_row rfl 26 _ rfl (w.heap.size) rfl _ (s.C) (0, 0) _ G0.out Tryd.underlying26 rfl (st_size HL.out) ?_) | (refine wpList_load_row rfl 63 _ rfl (w6.heap.size) rfl _ (IC) (0, 0) _ HI7.out Tryd.underlying63 rfl HIS.out ?_) | fail)
      clear hw7
      refine wp_region_a (by kernel_rfl) 98 rfl [30, 31, 32, 33, 98, 99] (fun _ _ => True) (factsOf [Is (.agg (s.C)), Is (.pointer (some ⟨w.heap.size, 32, none⟩)), Is (.int .u64 s.pc), Is (.agg (outC 3 42 s.pc)), AnyB, AnyB]) (JA [4, 5] [] (fun L _ w9 => PR (w.heap.size) w [(w.heap.size, s.C, 26)] [(4, (w.heap.size + 1), 26, St.zero.C, s.C), (5, (w.heap.size + 2), 36, #[.int .i64 0, .int .i64 0, .int .u64 0], (outC 3 42 s.pc))] L w9)) ?mono6 ?hj6 (by kernel_rfl) ?start6 ?steps6 ?fin6
      case mono6 => exact factsOf_monoR (monoR_cons (Is.monoR _ _) (monoR_cons (Is.monoR _ _) (monoR_cons (Is.monoR _ _) (monoR_cons (Is.monoR _ _) (monoR_cons (AnyB.monoR _) (monoR_cons (AnyB.monoR _) (monoR_nil _)))))))
      case hj6 => exact JA.congr (by decide)
      case start6 =>
        refine JA.of fun L' y' h1 h2 => ?_
        exact ⟨(Nat.le_refl _), Below.drew (HB7.out), (List.forall_mem_cons.2 ⟨Blk.drew (G0.out), (fun _ h => by cases h)⟩), (List.forall_mem_cons.2 ⟨PR.ini (h1 4 (by decide)) (Blk.drew (G1.out)), (List.forall_mem_cons.2 ⟨PR.ini (h1 5 (by decide)) (Blk.drew (G2.out)), (fun _ h => by cases h)⟩)⟩)⟩
      case fin6 =>
        intro y L w9 hJ hall hF hT
        have HP := Lib.hid hJ.out
        have HR0 := Lib.hid (PR.done (i := 4) HP.out (List.mem_iff_getElem?.2 ⟨0, rfl⟩) (hall 4 (by decide)))
        have HR1 := Lib.hid (PR.done (i := 5) HP.out (List.mem_iff_getElem?.2 ⟨1, rfl⟩) (hall 5 (by decide)))
        clear hJ hF hall
        rw [frCStep]
        simp only [hT 0 (by decide), hT 1 (by decide), hT 2 (by decide), hT 3 (by decide), hT 4 (by decide), hT 5 (by decide), hT 6 (by decide), hT 7 (by decide), hT 8 (by decide), hT 9 (by decide), hT 10 (by decide), hT 11 (by decide), hT 12 (by decide), hT 13 (by decide), hT 14 (by decide), hT 15 (by decide), hT 16 (by decide), hT 17 (by decide), hT 18 (by decide), hT 19 (by decide), hT 20 (by decide), hT 21 (by decide), hT 22 (by decide), hT 23 (by decide), hT 24 (by decide), hT 25 (by decide), hT 26 (by decide), hT 27 (by decide), hT 28 (by decide), hT 29 (by decide), hT 34 (by decide), hT 35 (by decide), hT 36 (by decide), hT 37 (by decide), hT 38 (by decide), hT 39 (by decide), hT 40 (by decide), hT 41 (by decide), hT 42 (by decide), hT 43 (by decide), hT 44 (by decide), hT 45 (by decide), hT 46 (by decide), hT 47 (by decide), hT 48 (by decide), hT 49 (by decide), hT 50 (by decide), hT 51 (by decide), hT 52 (by decide), hT 53 (by decide), hT 54 (by decide), hT 55 (by decide), hT 56 (by decide), hT 57 (by decide), hT 58 (by decide), hT 59 (by decide), hT 60 (by decide), hT 61 (by decide), hT 62 (by decide), hT 63 (by decide), hT 64 (by decide), hT 65 (by decide), hT 66 (by decide), hT 67 (by decide), hT 68 (by decide), hT 69 (by decide), hT 70 (by decide), hT 71 (by decide), hT 72 (by decide), hT 73 (by decide), hT 74 (by decide), hT 75 (by decide), hT 76 (by decide), hT 77 (by decide), hT 78 (by decide), hT 79 (by decide), hT 80 (by decide), hT 81 (by decide), hT 82 (by decide), hT 83 (by decide), hT 84 (by decide), hT 85 (by decide), hT 86 (by decide), hT 87 (by decide), hT 88 (by decide), hT 89 (by decide), hT 90 (by decide), hT 91 (by decide), hT 92 (by decide), hT 93 (by decide), hT 94 (by decide), hT 95 (by decide), hT 96 (by decide), hT 97 (by decide), List.getD_cons_succ, List.getD_cons_zero]
        clear hT 
        go_wp2
        refine bodyPost_ret (v := .tuple #[.agg (s.C), .agg (outC 3 42 s.pc)]) (results_two rfl _ _ ((w.heap.size + 1)) ((w.heap.size + 2)) _ _ (s.C) (outC 3 42 s.pc) (0, 0) (0, 0) _ _ rfl rfl HR0.out HR1.out Tryd.underlying26 rfl (st_size HL.out) Tryd.underlying36 rfl (by kernel_rfl)) rfl ?_
        exact ⟨by rw [← HQ.out]; rfl, TurnV.of_below HP.out.bel, by rw [← HQ.out]; exact HH.out.below HP.out.bel⟩
      case steps6 =>
        refine ⟨?_, ?_, ?_, ?_, ?_, ?_, trivial⟩
        all_goals intro L y w9 hJ hL hy0 hp0 hcl hun
        all_goals have hy := Lib.hid hy0
        all_goals have hp := Lib.hid hp0
        all_goals have HJ := Lib.hid hJ
        all_goals have HP := Lib.hid hJ.out
        all_goals have hU := Lib.hid hun
        all_goals clear hy0 hp0 hun hJ
        · have e1 : y 2 = .pointer (some ⟨w.heap.size, 0, none⟩) := hy.out 2 (by decide)
          intro K Q hK
          clear hcl hL
          have v1 := (eval_frame 98 y [] (t := 2) (by decide)).trans e1
          obtain ⟨A, hA⟩ : ∃ A, (⟨frameOf 98 y, []⟩ : Act) = A := ⟨_, rfl⟩
          rw [hA] at v1 hK ⊢
          clear hA hy hp
          refine wp_load_row 26 (.tmp 2) rfl (w.heap.size) v1 _ _ (0, 0) _ (HP.out.fx _ (List.mem_iff_getElem?.2 ⟨0, rfl⟩)) Tryd.underlying26 rfl (st_size HL.out) ?_
          exact hK _ _ ⟨trivial, fun _ => rfl, HJ.out.pure (by decide) (by decide)⟩
        · have e1 : y 2 = .pointer (some ⟨w.heap.size, 0, none⟩) := hy.out 2 (by decide)
          intro K Q hK
          clear hcl hL
          have v1 := (eval_frame 98 y [] (t := 2) (by decide)).trans e1
          obtain ⟨A, hA⟩ : ∃ A, (⟨frameOf 98 y, []⟩ : Act) = A := ⟨_, rfl⟩
          rw [hA] at v1 hK ⊢
          clear hA hy hp
          simp only [Act.eval] at v1
          go_simp
          exact hK _ _ ⟨trivial, fun _ => rfl, HJ.out.pure (by decide) (by decide)⟩
        · have e1 : y 31 = .pointer (some ⟨w.heap.size, 32, none⟩) := (hp.out 1 (by decide)).2 (by decide)
          have q0 : w9.cell? ⟨w.heap.size, 32, none⟩ = some (.int .u64 s.pc) := (Blk.cell (HP.out.fx _ (List.mem_iff_getElem?.2 ⟨0, rfl⟩)) _).trans (St.cpc HL.out)
          intro K Q hK
          clear hcl hL
          have v1 := (eval_frame 98 y [] (t := 31) (by decide)).trans e1
          obtain ⟨A, hA⟩ : ∃ A, (⟨frameOf 98 y, []⟩ : Act) = A := ⟨_, rfl⟩
          rw [hA] at v1 hK ⊢
          clear hA hy hp
          simp only [Act.eval] at v1
          go_simp
          exact hK _ _ ⟨trivial, fun _ => rfl, HJ.out.pure (by decide) (by decide)⟩
        · have e1 : y 32 = .int .u64 s.pc := (hp.out 2 (by decide)).2 (by decide)
          intro K Q hK
          clear hcl hL
          have v1 := (eval_frame 98 y [] (t := 32) (by decide)).trans e1
          obtain ⟨A, hA⟩ : ∃ A, (⟨frameOf 98 y, []⟩ : Act) = A := ⟨_, rfl⟩
          rw [hA] at v1 hK ⊢
          clear hA hy hp
          simp only [Act.eval] at v1
          go_simp
          refine (HFA.out _).mono ?_
          rintro r w5 ⟨rfl, hb5⟩
          exact hK _ _ ⟨trivial, fun _ => rfl, JA.step fun L' y' h1 h2 h3 h4 => PR.later (S := [4, 5]) HP.out hb5 rfl (by decide) h1⟩
        · have e1 : y 4 = .pointer (some ⟨(w.heap.size + 1), 0, none⟩) := hy.out 4 (by decide)
          have e2 : y 30 = .agg (s.C) := (hp.out 0 (by decide)).2 (by decide)
          have hN4 : L 4 = false := hL
          intro K Q hK
          clear hcl hL
          have v1 := (eval_frame 98 y [] (t := 4) (by decide)).trans e1
          have v2 := (eval_frame 98 y [] (t := 30) (by decide)).trans e2
          obtain ⟨A, hA⟩ : ∃ A, (⟨frameOf 98 y, []⟩ : Act) = A := ⟨_, rfl⟩
          rw [hA] at v1 v2 hK ⊢
          clear hA hy hp
          refine wp_store_row 26 (.tmp 4) (.tmp 30) rfl ((w.heap.size + 1)) (s.C) v1 v2 _ _ (PR.todo (i := 4) HP.out (List.mem_iff_getElem?.2 ⟨0, rfl⟩) hN4) (st_size HL.out) (zs_size HL.out) s.one ?_
          exact hK undef _ ⟨trivial, fun h => absurd h (by decide), JA.step fun L' y' h1 h2 h3 h4 => PR.store (i := 4) HP.out HD.out (List.mem_iff_getElem?.2 ⟨0, rfl⟩) rfl (h2 (by decide)) h1⟩
        · have e1 : y 5 = .pointer (some ⟨(w.heap.size + 2), 0, none⟩) := hy.out 5 (by decide)
          have e2 : y 33 = .agg (outC 3 42 s.pc) := (hp.out 3 (by decide)).2 (by decide)
          have hN5 : L 5 = false := hL
          intro K Q hK
          clear hcl hL
          have v1 := (eval_frame 98 y [] (t := 5) (by decide)).trans e1
          have v2 := (eval_frame 98 y [] (t := 33) (by decide)).trans e2
          obtain ⟨A, hA⟩ : ∃ A, (⟨frameOf 98 y, []⟩ : Act) = A := ⟨_, rfl⟩
          rw [hA] at v1 v2 hK ⊢
          clear hA hy hp
          refine wp_store_row 36 (.tmp 5) (.tmp 33) rfl ((w.heap.size + 2)) ((outC 3 42 s.pc)) v1 v2 _ _ (PR.todo (i := 5) HP.out (List.mem_iff_getElem?.2 ⟨1, rfl⟩) hN5) (by kernel_rfl) (by kernel_rfl) (out_one _ _ _) ?_
          exact hK undef _ ⟨trivial, fun h => absurd h (by decide), JA.step fun L' y' h1 h2 h3 h4 => PR.store (i := 5) HP.out HD.out (List.mem_iff_getElem?.2 ⟨1, rfl⟩) rfl (h2 (by decide)) h1⟩
  · have heb : ¬ fe = 0 := he
    have q := HR.out
    rw [if_neg he] at q
    have HQ := Lib.hid q
    clear q HR
    have HD : Hid (Dist w.heap.size [(w.heap.size, s.C, 26)] [(5, (w.heap.size + 1), 26, St.zero.C, s.C), (6, (w.heap.size + 2), 36, #[.int .i64 0, .int .i64 0, .int .u64 0], (outC 3 fe s.pc))]) := Lib.hid ⟨by (intro r hr; simp only [List.mem_cons, List.not_mem_nil, or_false] at hr; rcases hr with rfl | rfl <;> refine ⟨(by dsimp only; omega), fun f hf => ?_⟩ <;> simp only [List.mem_cons, List.not_mem_nil, or_false] at hf <;> (rcases hf with rfl) <;> dsimp only <;> omega), by (intro r hr q hq h; simp only [List.mem_cons, List.not_mem_nil, or_false] at hr hq; rcases hr with rfl | rfl <;> rcases hq with rfl | rfl <;> first | rfl | (exfalso; simp at h; done) | (exfalso; simp at h; omega))⟩
    have HFA := Lib.hid (fun wx => fault_ok fe s.pc wx)
    go_wp2_with fail
    refine wp_region_a (by kernel_rfl) 98 rfl [18, 19, 20, 21, 22, 98, 99] (fun _ _ => True) (factsOf [Is (.agg (s.C)), Is (.int .i64 fe), Is (.pointer (some ⟨w.heap.size, 32, none⟩)), Is (.int .u64 s.pc), Is (.agg (outC 3 fe s.pc)), AnyB, AnyB]) (JA [5, 6] [] (fun L _ w9 => PR (w.heap.size) w [(w.heap.size, s.C, 26)] [(5, (w.heap.size + 1), 26, St.zero.C, s.C), (6, (w.heap.size + 2), 36, #[.int .i64 0, .int .i64 0, .int .u64 0], (outC 3 fe s.pc))] L w9)) ?mono3 ?hj3 (by kernel_rfl) ?start3 ?steps3 ?fin3
    case mono3 => exact factsOf_monoR (monoR_cons (Is.monoR _ _) (monoR_cons (Is.monoR _ _) (monoR_cons (Is.monoR _ _) (monoR_cons (Is.monoR _ _) (monoR_cons (Is.monoR _ _) (monoR_cons (AnyB.monoR _) (monoR_cons (AnyB.monoR _) (monoR_nil _))))))))
    case hj3 => exact JA.congr (by decide)
    case start3 =>
      refine JA.of fun L' y' h1 h2 => ?_
      exact ⟨(Nat.le_refl _), Below.drew (HB5.out), (List.forall_mem_cons.2 ⟨Blk.drew (E0.out), (fun _ h => by cases h)⟩), (List.forall_mem_cons.2 ⟨PR.ini (h1 5 (by decide)) (Blk.drew (E1.out)), (List.forall_mem_cons.2 ⟨PR.ini (h1 6 (by decide)) (Blk.drew (E2.out)), (fun _ h => by cases h)⟩)⟩)⟩
    case fin3 =>
      intro y L w9 hJ hall hF hT
      have HP := Lib.hid hJ.out
      have HR0 := Lib.hid (PR.done (i := 5) HP.out (List.mem_iff_getElem?.2 ⟨0, rfl⟩) (hall 5 (by decide)))
      have HR1 := Lib.hid (PR.done (i := 6) HP.out (List.mem_iff_getElem?.2 ⟨1, rfl⟩) (hall 6 (by decide)))
      clear hJ hF hall
      rw [frCStep]
      simp only [hT 0 (by decide), hT 1 (by decide), hT 2 (by decide), hT 3 (by decide), hT 4 (by decide), hT 5 (by decide), hT 6 (by decide), hT 7 (by decide), hT 8 (by decide), hT 9 (by decide), hT 10 (by decide), hT 11 (by decide), hT 12 (by decide), hT 13 (by decide), hT 14 (by decide), hT 15 (by decide), hT 16 (by decide), hT 17 (by decide), hT 23 (by decide), hT 24 (by decide), hT 25 (by decide), hT 26 (by decide), hT 27 (by decide), hT 28 (by decide), hT 29 (by decide), hT 30 (by decide), hT 31 (by decide), hT 32 (by decide), hT 33 (by decide), hT 34 (by decide), hT 35 (by decide), hT 36 (by decide), hT 37 (by decide), hT 38 (by decide), hT 39 (by decide), hT 40 (by decide), hT 41 (by decide), hT 42 (by decide), hT 43 (by decide), hT 44 (by decide), hT 45 (by decide), hT 46 (by decide), hT 47 (by decide), hT 48 (by decide), hT 49 (by decide), hT 50 (by decide), hT 51 (by decide), hT 52 (by decide), hT 53 (by decide), hT 54 (by decide), hT 55 (by decide), hT 56 (by decide), hT 57 (by decide), hT 58 (by decide), hT 59 (by decide), hT 60 (by decide), hT 61 (by decide), hT 62 (by decide), hT 63 (by decide), hT 64 (by decide), hT 65 (by decide), hT 66 (by decide), hT 67 (by decide), hT 68 (by decide), hT 69 (by decide), hT 70 (by decide), hT 71 (by decide), hT 72 (by decide), hT 73 (by decide), hT 74 (by decide), hT 75 (by decide), hT 76 (by decide), hT 77 (by decide), hT 78 (by decide), hT 79 (by decide), hT 80 (by decide), hT 81 (by decide), hT 82 (by decide), hT 83 (by decide), hT 84 (by decide), hT 85 (by decide), hT 86 (by decide), hT 87 (by decide), hT 88 (by decide), hT 89 (by decide), hT 90 (by decide), hT 91 (by decide), hT 92 (by decide), hT 93 (by decide), hT 94 (by decide), hT 95 (by decide), hT 96 (by decide), hT 97 (by decide), List.getD_cons_succ, List.getD_cons_zero]
      clear hT 
      go_wp2
      refine bodyPost_ret (v := .tuple #[.agg (s.C), .agg (outC 3 fe s.pc)]) (results_two rfl _ _ ((w.heap.size + 1)) ((w.heap.size + 2)) _ _ (s.C) (outC 3 fe s.pc) (0, 0) (0, 0) _ _ rfl rfl HR0.out HR1.out Tryd.underlying26 rfl (st_size HL.out) Tryd.underlying36 rfl (by kernel_rfl)) rfl ?_
      exact ⟨by rw [← HQ.out]; rfl, TurnV.of_below HP.out.bel, by rw [← HQ.out]; exact HH.out.below HP.out.bel⟩
    case steps3 =>
      refine ⟨?_, ?_, ?_, ?_, ?_, ?_, ?_, trivial⟩
      all_goals intro L y w9 hJ hL hy0 hp0 hcl hun
      all_goals have hy := Lib.hid hy0
      all_goals have hp := Lib.hid hp0
      all_goals have HJ := Lib.hid hJ
      all_goals have HP := Lib.hid hJ.out
      all_goals have hU := Lib.hid hun
      all_goals clear hy0 hp0 hun hJ
      · have e1 : y 2 = .pointer (some ⟨w.heap.size, 0, none⟩) := hy.out 2 (by decide)
        intro K Q hK
        clear hcl hL
        have v1 := (eval_frame 98 y [] (t := 2) (by decide)).trans e1
        obtain ⟨A, hA⟩ : ∃ A, (⟨frameOf 98 y, []⟩ : Act) = A := ⟨_, rfl⟩
        rw [hA] at v1 hK ⊢
        clear hA hy hp
        refine wp_load_row 26 (.tmp 2) rfl (w.heap.size) v1 _ _ (0, 0) _ (HP.out.fx _ (List.mem_iff_getElem?.2 ⟨0, rfl⟩)) Tryd.underlying26 rfl (st_size HL.out) ?_
        exact hK _ _ ⟨trivial, fun _ => rfl, HJ.out.pure (by decide) (by decide)⟩
      · have e1 : y 7 = .int .i64 fe := hy.out 7 (by decide)
        intro K Q hK
        clear hcl hL
        have v1 := (eval_frame 98 y [] (t := 7) (by decide)).trans e1
        obtain ⟨A, hA⟩ : ∃ A, (⟨frameOf 98 y, []⟩ : Act) = A := ⟨_, rfl⟩
        rw [hA] at v1 hK ⊢
        clear hA hy hp
        simp only [Act.eval] at v1
        go_simp
        exact hK _ _ ⟨trivial, fun _ => rfl, HJ.out.pure (by decide) (by decide)⟩
      · have e1 : y 2 = .pointer (some ⟨w.heap.size, 0, none⟩) := hy.out 2 (by decide)
        intro K Q hK
        clear hcl hL
        have v1 := (eval_frame 98 y [] (t := 2) (by decide)).trans e1
        obtain ⟨A, hA⟩ : ∃ A, (⟨frameOf 98 y, []⟩ : Act) = A := ⟨_, rfl⟩
        rw [hA] at v1 hK ⊢
        clear hA hy hp
        simp only [Act.eval] at v1
        go_simp
        exact hK _ _ ⟨trivial, fun _ => rfl, HJ.out.pure (by decide) (by decide)⟩
      · have e1 : y 20 = .pointer (some ⟨w.heap.size, 32, none⟩) := (hp.out 2 (by decide)).2 (by decide)
        have q0 : w9.cell? ⟨w.heap.size, 32, none⟩ = some (.int .u64 s.pc) := (Blk.cell (HP.out.fx _ (List.mem_iff_getElem?.2 ⟨0, rfl⟩)) _).trans (St.cpc HL.out)
        intro K Q hK
        clear hcl hL
        have v1 := (eval_frame 98 y [] (t := 20) (by decide)).trans e1
        obtain ⟨A, hA⟩ : ∃ A, (⟨frameOf 98 y, []⟩ : Act) = A := ⟨_, rfl⟩
        rw [hA] at v1 hK ⊢
        clear hA hy hp
        simp only [Act.eval] at v1
        go_simp
        exact hK _ _ ⟨trivial, fun _ => rfl, HJ.out.pure (by decide) (by decide)⟩
      · have e1 : y 19 = .int .i64 fe := (hp.out 1 (by decide)).2 (by decide)
        have e2 : y 21 = .int .u64 s.pc := (hp.out 3 (by decide)).2 (by decide)
        intro K Q hK
        clear hcl hL
        have v1 := (eval_frame 98 y [] (t := 19) (by decide)).trans e1
        have v2 := (eval_frame 98 y [] (t := 21) (by decide)).trans e2
        obtain ⟨A, hA⟩ : ∃ A, (⟨frameOf 98 y, []⟩ : Act) = A := ⟨_, rfl⟩
        rw [hA] at v1 v2 hK ⊢
        clear hA hy hp
        simp only [Act.eval] at v1 v2
        go_simp
        refine (HFA.out _).mono ?_
        rintro r w5 ⟨rfl, hb5⟩
        exact hK _ _ ⟨trivial, fun _ => rfl, JA.step fun L' y' h1 h2 h3 h4 => PR.later (S := [5, 6]) HP.out hb5 rfl (by decide) h1⟩
      · have e1 : y 4 = .pointer (some ⟨(w.heap.size + 1), 0, none⟩) := hy.out 4 (by decide)
        have e2 : y 18 = .agg (s.C) := (hp.out 0 (by decide)).2 (by decide)
        have hN5 : L 5 = false := hL
        intro K Q hK
        clear hcl hL
        have v1 := (eval_frame 98 y [] (t := 4) (by decide)).trans e1
        have v2 := (eval_frame 98 y [] (t := 18) (by decide)).trans e2
        obtain ⟨A, hA⟩ : ∃ A, (⟨frameOf 98 y, []⟩ : Act) = A := ⟨_, rfl⟩
        rw [hA] at v1 v2 hK ⊢
        clear hA hy hp
        refine wp_store_row 26 (.tmp 4) (.tmp 18) rfl ((w.heap.size + 1)) (s.C) v1 v2 _ _ (PR.todo (i := 5) HP.out (List.mem_iff_getElem?.2 ⟨0, rfl⟩) hN5) (st_size HL.out) (zs_size HL.out) s.one ?_
        exact hK undef _ ⟨trivial, fun h => absurd h (by decide), JA.step fun L' y' h1 h2 h3 h4 => PR.store (i := 5) HP.out HD.out (List.mem_iff_getElem?.2 ⟨0, rfl⟩) rfl (h2 (by decide)) h1⟩
      · have e1 : y 5 = .pointer (some ⟨(w.heap.size + 2), 0, none⟩) := hy.out 5 (by decide)
        have e2 : y 22 = .agg (outC 3 fe s.pc) := (hp.out 4 (by decide)).2 (by decide)
        have hN6 : L 6 = false := hL
        intro K Q hK
        clear hcl hL
        have v1 := (eval_frame 98 y [] (t := 5) (by decide)).trans e1
        have v2 := (eval_frame 98 y [] (t := 22) (by decide)).trans e2
        obtain ⟨A, hA⟩ : ∃ A, (⟨frameOf 98 y, []⟩ : Act) = A := ⟨_, rfl⟩
        rw [hA] at v1 v2 hK ⊢
        clear hA hy hp
        refine wp_store_row 36 (.tmp 5) (.tmp 22) rfl ((w.heap.size + 2)) ((outC 3 fe s.pc)) v1 v2 _ _ (PR.todo (i := 6) HP.out (List.mem_iff_getElem?.2 ⟨1, rfl⟩) hN6) (by kernel_rfl) (by kernel_rfl) (out_one _ _ _) ?_
        exact hK undef _ ⟨trivial, fun h => absurd h (by decide), JA.step fun L' y' h1 h2 h3 h4 => PR.store (i := 6) HP.out HD.out (List.mem_iff_getElem?.2 ⟨1, rfl⟩) rfl (h2 (by decide)) h1⟩
end Go.Proofs.YtkhfmgifpppcmaaDoor
