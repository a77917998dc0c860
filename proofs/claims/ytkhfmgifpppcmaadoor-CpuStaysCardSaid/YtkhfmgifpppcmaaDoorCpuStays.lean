/-
  What is proved here: CpuStays: registers that an instruction doesn't name stay; so does a thread's pointer; memory that is none is a fault.
  Conditions: none of our own; the law's row says what its input is.
-/
import Derived.Test.YtkhfmgifpppcmaaDoorRows
import Derived.Test.YtkhfmgifpppcmaaDoorCpuA
import Derived.Test.YtkhfmgifpppcmaaDoorVmNil
import Derived.Test.YtkhfmgifpppcmaaDoorArr
import Derived.Test.YtkhfmgifpppcmaaDoorMask
import Derived.WalkKit
import Derived.ProofKit
import Derived.OpenShut
import Derived.ShutString
import Derived.ChangeOld
import Derived.Below
import Derived.Test.YtkhfmgifpppcmaaDoorTie
import Derived.Test.YtkhfmgifpppcmaaDoorCards
import Derived.SevenTiedAt
import Derived.Lay
import Derived.LaidMore
import Derived.Stop.Joined
import Derived.Test.YtkhfmgifpppcmaaDoorCard
namespace Go.Proofs.YtkhfmgifpppcmaaDoor.cpuStays
open Go.ChangeShapes Go.WideShapes Go.ChangeAt Go.RowKit
open Go.ChangeMaps (open_string shut_string)
set_option linter.unusedVariables false

theorem own : ownKnob Tryd.prog.godebug = none := by kernel_rfl
theorem laidOut : laidOutB Tryd.prog = true := by kernel_rfl

set_option maxRecDepth 100000 in
set_option maxHeartbeats 12800000 in
theorem walkAll (w : World) (hTB : Tb w) (a0 : Int) (z1 : List Int) (a2 a3 : Int) (w0 : (Lit.int .u64 a0).wf = true) (w1 : IsArr .u64 32 z1) (w2 : (Lit.int .u64 a2).wf = true) (w3 : (Lit.int .u64 a3).wf = true) :
    Calls Tryd.prog 3 #[.int .u64 a0, .agg (z1.map (Value.int .u64)).toArray, .int .u64 a2, .int .u64 a3] w fun e w' => e = .returned (.bool true) ∧ Below w.heap.size w w' := by
  obtain ⟨x0, x1⟩ : 0 ≤ a0 ∧ a0 ≤ 18446744073709551615 := by simpa [Lit.wf, IntKind.min, IntKind.max, IntKind.signed, IntKind.bits] using w0
  obtain ⟨t0, t1⟩ : 0 ≤ a2 ∧ a2 ≤ 18446744073709551615 := by simpa [Lit.wf, IntKind.min, IntKind.max, IntKind.signed, IntKind.bits] using w2
  obtain ⟨p0, p1⟩ : 0 ≤ a3 ∧ a3 ≤ 18446744073709551615 := by simpa [Lit.wf, IntKind.min, IntKind.max, IntKind.signed, IntKind.bits] using w3
  have hzb : ∀ z ∈ z1, 0 ≤ z ∧ z ≤ 18446744073709551615 := fun z hz => by simpa [Lit.wf, IntKind.min, IntKind.max, IntKind.signed, IntKind.bits] using w1.2 z hz
  have hzl := w1.1
  obtain ⟨s, hs⟩ : ∃ s : St, s = ⟨z1, 256, a2⟩ := ⟨_, rfl⟩
  have hsk : s.Ok := by subst hs; exact ⟨hzl, hzb, (by decide : (0 : Int) ≤ 256), (by decide : (256 : Int) ≤ 18446744073709551615), t0, t1⟩
  have HS := Lib.hid hsk
  have HTB := Lib.hid hTB
  obtain ⟨RA, hRA⟩ : ∃ RA, (z1.map (Value.int .u64)).toArray = RA := ⟨_, rfl⟩
  have HRA : Hid (s.RA = RA) := Lib.hid (by rw [← hRA, hs]; rfl)
  have HSV := Lib.hid hs
  have hrs : RA.size = 32 := by rw [← HRA.out]; exact St.RA_size hsk.len
  rw [hRA]
  obtain ⟨w1', hw1⟩ : ∃ w1', w.alloc (.cells RA 23) = w1' := ⟨_, rfl⟩
  have B0 : Hid (Blk w1' w.heap.size RA 23) := Lib.hid (by rw [← hw1]; exact Blk.new _ _ _)
  have HB : Hid (Below w.heap.size w w1') := Lib.hid (by rw [← hw1]; exact (Below.refl _ _).alloc (Nat.le_refl _) _)
  have HRI : Hid ((Tryd.prog.info? 23).map (·.size) = some RA.size) := Lib.hid (by rw [hrs]; kernel_rfl)
  have HAW := Lib.hid (awake14_ok (hTB.later HB.out))
  clear w0 w1 w2 w3 hTB hsk hs hRA hzl hzb
  go_enter Tryd.func3, Tryd.ntmps3
  go_wp2_with fail
  clear hw1
  refine HAW.out.mono ?_
  rintro r1 w2' ⟨rfl, hb2⟩
  have B2 := Lib.hid (B0.out.later hb2)
  have HB2 : Hid (Below w.heap.size w w2') := Lib.hid (HB.out.trans (hb2.mono HB.out.size))
  clear hb2 HAW B0 HB
  have hbu : Tryd.prog.built 26 [(0, .agg RA), (1, .int .u64 256), (2, .int .u64 a2)] = some s.C := by
    have := built_st (s := s) HS.out.len
    rw [HRA.out, HSV.out] at this
    rw [HSV.out]
    exact this
  obtain ⟨SC, hSC⟩ : ∃ C, s.C = C := ⟨_, rfl⟩
  have HSS := Lib.hid (st_size HS.out.len)
  have HZZ := Lib.hid (zs_size HS.out.len)
  have HOO := Lib.hid s.one
  rw [hSC] at hbu HSS HZZ HOO
  have HSC := Lib.hid hSC
  have HBU := Lib.hid hbu
  clear hbu hSC
  go_wp2_with (first | (refine wpList_load_row rfl 23 _ rfl w.heap.size rfl _ RA (0, 0) _ B2.out Tryd.underlying23 rfl HRI.out ?_; refine wpList_move_eq rfl _ rfl _ rfl ?_; refine wpList_build_l rfl 26 _ rfl SC _ (by kernel_rfl) HBU.out ?_) | (refine wpList_alloc_eq rfl 26 rfl St.zero.C zs_info ?_) | (refine wpList_store_row rfl 26 _ _ rfl w2'.heap.size SC rfl rfl _ _ (Blk.new w2' St.zero.C 26) HSS.out HZZ.out HOO.out ?_; rw [alloc_setRow]) | fail)
  obtain ⟨gs, hgs⟩ : ∃ gs, w2'.heap.size = gs := ⟨_, rfl⟩
  obtain ⟨w3, hw3⟩ : ∃ w3, w2'.alloc (.cells SC 26) = w3 := ⟨_, rfl⟩
  rw [hw3, hgs]
  have BS : Hid (Blk w3 gs SC 26) := Lib.hid (by rw [← hw3, ← hgs]; exact Blk.new _ _ _)
  have hb23 : Below w2'.heap.size w2' w3 := by rw [← hw3]; exact (Below.refl _ _).alloc (Nat.le_refl _) _
  have B3 := Lib.hid (B2.out.later hb23)
  have HB3 : Hid (Below w.heap.size w w3) := Lib.hid (HB2.out.trans (hb23.mono HB2.out.size))
  clear hb23 hw3 hgs B2 HB2 HBU
  refine (AW.new w3).mono ?_
  rintro r4 w4 ⟨rfl, H3⟩
  obtain ⟨g, hg⟩ : ∃ g, w3.heap.size = g := ⟨_, rfl⟩
  rw [hg] at H3 ⊢
  have h4 := H3.out.map 256 256 7 ⟨#[]⟩ 0 (by decide) (by decide) (by decide) (by decide) (by decide) (by decide)
  rw [show (7 : Int) = ((7 : Nat) : Int) from rfl, pgA_map (m := 7) (by decide)] at h4
  have H4 := Lib.hid h4
  have hcs := fun g w => cmp_sp g w
  have HAB : Hid (∀ u ∈ [a0], 0 ≤ u ∧ u ≤ 18446744073709551615) := Lib.hid (by intro u hu; rw [List.mem_singleton] at hu; subst hu; exact ⟨x0, x1⟩)
  clear h4
  go_wp2_with fail
  refine H4.out.mono ?_
  rintro r4 w4 ⟨rfl, h5⟩
  obtain ⟨S, hS⟩ := h5.out
  have H5 := Lib.hid hS
  clear hS h5 H4 H3
  have hw5 : (w4.alloc (.cells #[.int .u64 a0] 22)).heap.size = w4.heap.size + 1 := by simp
  have hnu : Nus (w4.alloc (.cells #[.int .u64 a0] 22)) (w4.alloc (.cells #[.int .u64 a0] 22)).heap.size (some ⟨w4.heap.size, 0, none⟩) 1 [a0] := by
    rw [hw5]
    exact Nus.lit w4 [a0] HAB.out 22
  have HCO := Lib.hid (code_ok (c := 1) hnu (by decide))
  have H6 := Lib.hid (H5.out.later ((Below.refl w4.heap.size w4).alloc (Nat.le_refl _) (.cells #[.int .u64 a0] 22)))
  clear hw5 hnu H5
  go_wp2_with fail
  refine HCO.out.mono ?_
  rintro r6 w6 ⟨v, rfl, hrow, hb6⟩
  obtain ⟨va, vc, rfl⟩ := own_slp hrow
  have hcl : (codeB [a0]).length = 8 := codeB_len _
  have hlc : 8 ≤ vc ∧ vc ≤ 9223372036854775807 := by
    rcases hrow.2 with ⟨e0, e1⟩ | ⟨gg, cap, cur, hv, _, hg, h1, h2, _⟩
    · exact absurd e1 (by decide)
    · injection hv with _ _ e3
      subst e3
      exact ⟨by omega, by unfold maxLen at h2; omega⟩
  have H7 := Lib.hid (H6.out.later hb6)
  have hno : ∀ gb ob, va = some ⟨gb, ob, none⟩ → ¬ S.own gb := fun gb ob e ho => by
    have h1 := H6.out.at0.sm gb ho
    have h2 := (hrow.lt gb (by rw [e]; rfl)).1
    omega
  have h8 := Poke_ok H7.out.at0 256 (by decide) (codeB [a0]) va 8 vc (Bys.own (codeB_bd _) hrow) (fun gb ob e ho => hno gb ob e ho) hlc.1 hlc.2 (by decide)
  have e8 : pokeR [pgA 7 ⟨#[]⟩] 256 (codeB [a0]) = (pokeW false [pgA 7 ⟨#[]⟩] 256 (codeB [a0]), 0) := pgA_poke (by rw [hcl]; decide)
  have HFT : Hid (fetchR (pokeW false [pgA 7 ⟨#[]⟩] 256 (codeB [a0])) 256 = (a0, 0)) := Lib.hid (pgA_fetch (m := 7) (by decide) HAB.out (Nat.le_of_ble_eq_true rfl) (k := 0) (Nat.zero_lt_one))
  rw [e8] at h8
  obtain ⟨M1, hM1⟩ : ∃ M1, pokeW false [pgA 7 ⟨#[]⟩] 256 (codeB [a0]) = M1 := ⟨_, rfl⟩
  rw [hM1] at h8 HFT
  unfold ptrV at h8
  rw [H7.out.g] at h8
  have H8 := Lib.hid h8
  clear h8 e8 hno hrow hb6 hlc hcl HCO H6 hM1
  go_wp2_with fail
  refine H8.out.mono ?_
  rintro r8 w8 ⟨rfl, hv8, ht8⟩
  have H9 := Lib.hid (H7.out.turn hv8 ht8)
  clear hv8 ht8 H8 H7 hcs
  have hs1 := step_ok s HS.out (HTB.out.later (HB3.out.trans (H9.out.bel.mono HB3.out.size))) H9.out.at0
  have BS8 := Lib.hid (BS.out.later H9.out.bel)
  obtain ⟨R, hR⟩ : ∃ R, stepC s M1 = R := ⟨_, rfl⟩
  have hR1 : R.1.R.length = 32 := by rw [← hR, stepC_len]; exact HS.out.len
  have hR2 : R.1.tls = a2 := by rw [← hR, stepC_tls, HSV.out]
  have hR3 : R.2.2.k = 3 → R.1 = s := by rw [← hR]; exact stepC_fault s M1
  obtain ⟨q, hq⟩ : ∃ q : Nat, a0 / 256 % 32 = (q : Int) := ⟨(a0 / 256 % 32).toNat, by omega⟩
  have hR4 : ∀ k, k ≠ q → R.1.R.getD k 0 = s.R.getD k 0 := fun k hk => by
    rw [← hR]
    exact stays (u := a0) (by rw [HSV.out]; exact HFT.out) (by rw [hq]; exact hk)
  have hq31 : q ≤ 31 := by omega
  have hav : bits .and .u64 (a0 / 256) 31 = (q : Int) := by rw [and31 (by omega) (by omega), hq]
  rw [hR] at hs1
  obtain ⟨kk, hkk⟩ : ∃ kk, R.2.2.k = kk := ⟨_, rfl⟩
  obtain ⟨OC, hOC⟩ : ∃ OC, R.2.2.C = OC := ⟨_, rfl⟩
  obtain ⟨RC, hRC⟩ : ∃ RC, R.1.C = RC := ⟨_, rfl⟩
  have HO0 : Hid (OC[0]? = some (.int .i64 kk)) := Lib.hid (by rw [← hOC, ← hkk]; rfl)
  have HRC33 : Hid (RC[33]? = some (.int .u64 a2)) := Lib.hid (by rw [← hRC, St.ctls hR1, hR2])
  have HRCk : Hid (∀ k, k < 32 → k ≠ q → RC[k]? = some (.int .u64 (s.R.getD k 0))) := Lib.hid (fun k h1 h2 => by rw [← hRC, St.creg hR1 h1, hR4 k h2])
  have HRAk : Hid (∀ k, k < 32 → RA[k]? = some (.int .u64 (s.R.getD k 0))) := Lib.hid (fun k h1 => by rw [← HRA.out]; exact St.RA_reg HS.out.len h1)
  have HA : Hid (kk = 3 → RC = SC) := Lib.hid (fun h => by rw [← hRC, hR3 (by rw [hkk]; exact h), HSC.out])
  have HS1z : Hid ((Tryd.prog.info? 26).map (·.size) = some RC.size) := Lib.hid (by rw [← hRC]; exact st_size hR1)
  have HZ1z : Hid ((St.zero.C).size = RC.size) := Lib.hid (by rw [← hRC]; exact zs_size hR1)
  have HO1z : Hid (RC.all (·.oneCell') = true) := Lib.hid (by rw [← hRC]; exact St.one _)
  have HS2z : Hid ((Tryd.prog.info? 36).map (·.size) = some OC.size) := Lib.hid (by rw [← hOC]; exact oc_size _)
  have HZ2z : Hid ((#[.int .i64 0, .int .i64 0, .int .u64 0] : Array Value).size = OC.size) := Lib.hid (by rw [← hOC]; exact oc_z _)
  have HO2z : Hid (OC.all (·.oneCell') = true) := Lib.hid (by rw [← hOC]; exact oc_one _)
  rw [hRC, hOC, HSC.out] at hs1
  unfold ptrV at hs1
  rw [H9.out.g] at hs1
  have HS1 := Lib.hid hs1
  clear hs1 hR hR1 hR2 hR3 hR4 hkk hOC hRC hq HFT
  go_wp2_with (first | (refine wpList_load_row rfl 26 _ rfl gs rfl _ SC (0, 0) _ BS8.out Tryd.underlying26 rfl HSS.out ?_) | fail)
  refine HS1.out.mono ?_
  rintro r9 w9 ⟨rfl, ht9, hv9⟩
  have H10 := Lib.hid (H9.out.turn hv9 ht9)
  clear hv9 ht9 HS1 H9 BS8
  obtain ⟨wP, hwP⟩ : ∃ wP, pairW w9 RC OC = wP := ⟨_, rfl⟩
  have HW : Hid (Below w9.heap.size w9 wP) := Lib.hid (by rw [← hwP]; exact pair_below w9 RC OC)
  have HK1 : Hid (Blk wP w9.heap.size RC 26) := Lib.hid (by rw [← hwP]; exact pair_1 w9 RC OC)
  have HK2 : Hid (Blk wP (w9.heap.size + 1) OC 36) := Lib.hid (by rw [← hwP]; exact pair_2 w9 RC OC)
  have H11 := Lib.hid (H10.out.later HW.out)
  have BSP := Lib.hid (BS.out.later H11.out.bel)
  have B3P := Lib.hid (B3.out.later H11.out.bel)
  have HBP : Hid (Below w.heap.size w wP) := Lib.hid (HB3.out.trans (H11.out.bel.mono HB3.out.size))
  obtain ⟨g9, hg9⟩ : ∃ g9, w9.heap.size = g9 := ⟨_, rfl⟩
  have HPA := Lib.hid (pair_a w9)
  have HPB := Lib.hid (pair_b w9 RC)
  have q33 : wP.cell? ⟨w9.heap.size, 33, none⟩ = some (.int .u64 a2) := (HK1.out.cell 33).trans HRC33.out
  have q0 : wP.cell? ⟨w9.heap.size + 1, 0, none⟩ = some (.int .i64 kk) := (HK2.out.cell 0).trans HO0.out
  have hd : kk = 3 ∨ (kk == 3) = false := by
    by_cases h : kk = 3
    · exact .inl h
    · exact .inr (by simp; exact h)
  have HWP := Lib.hid hwP
  clear hwP H10 H11 HW BS B3 HB3
  have h3k : (St.zero.setP a3).Ok := St.zero_ok.setP p0 p1
  have h3p : (St.zero.setP a3).pc = a3 := rfl
  have H3L := Lib.hid h3k.len
  have hsf := fun wx => step_fail (St.zero.setP a3) h3k wx (.pointer none) 0 1 (by decide) (fun wy hb => by
    have h1 := Fetch_nil wy (St.zero.setP a3).pc.toNat
    rw [Int.toNat_of_nonneg (show 0 ≤ (St.zero.setP a3).pc from p0)] at h1
    exact h1.mono fun e w' h => ⟨h.1, by rw [h.2]; exact Below.refl _ _⟩)
  have HSF := Lib.hid hsf
  have HQ31 := Lib.hid hq31
  have HAV := Lib.hid hav
  clear hsf h3k h3p hq31 hav hg9
  rcases hd with h3 | h3
  · have hrs := HA.out h3
    subst h3
    subst hrs
    go_wp2_with (first | (refine wpList_alloc_eq rfl 26 rfl St.zero.C zs_info ?_) | (refine wpList_store_row rfl 26 _ _ rfl w9.heap.size RC rfl rfl _ _ HPA.out HS1z.out HZ1z.out HO1z.out ?_) | (refine wpList_store_row rfl 36 _ _ rfl (w9.heap.size + 1) OC rfl rfl _ _ HPB.out HS2z.out HZ2z.out HO2z.out ?_; rw [show ((((w9.alloc (.cells St.zero.C 26)).alloc (.cells #[.int .i64 0, .int .i64 0, .int .u64 0] 36)).setRow w9.heap.size RC).setRow (w9.heap.size + 1) OC) = pairW w9 RC OC from rfl, HWP.out]) | (refine wpList_load_row_g (by rfl) 26 _ rfl w9.heap.size rfl _ RC (0, 0) _ HK1.out Tryd.underlying26 rfl HSS.out ?_) | (refine wpList_load_row_g (by rfl) 26 _ rfl gs rfl _ RC (0, 0) _ BSP.out Tryd.underlying26 rfl HSS.out ?_) | (refine wpList_differ_g HS.out.len (by rfl) (.tmp 50) (.tmp 51) _ rfl (by rw [HSC.out]; rfl) (by rw [HSC.out]; rfl) ?_) | fail)
    clear q33 q0
    go_loopw [14] (fun i wr => ∃ k : Nat, k ≤ 32 ∧ i = .int .i64 k ∧ Hid (Below wP.heap.size wP wr)) (fun i _ => 32 - (intOf i).toNat)
    case atStart => exact ⟨0, Nat.zero_le _, by go_num, Lib.hid (Below.refl _ _)⟩
    case round =>
      obtain ⟨k, hk, rfl, HBE⟩ := hrel
      by_cases hlt : k < 32
      · have hlti : (k : Int) < 32 := by omega
        have HK := Lib.hid hlt
        have hq31 := HQ31.out
        have hav := HAV.out
        by_cases hq : k = q
        · have hgd : ((k : Int) != (q : Int)) = false := by rw [hq]; simp
          have HGQ := Lib.hid hq
          clear hq hlt hk
          go_wp2
          go_quiet (fail)
          go_wp2
          go_roundw
          case rel => exact ⟨k + 1, HK.out, by go_num, Lib.hid (below_drewN HBE.out _)⟩
          case measure => have := HK.out; simp [intOf]; omega
        · have hgd : ((k : Int) != (q : Int)) = true := by simp; omega
          obtain ⟨z, hz⟩ : ∃ z, s.R.getD k 0 = z := ⟨_, rfl⟩
          have z1 : wr.cell? ⟨w9.heap.size, k, none⟩ = some (.int .u64 z) := by rw [← hz]; exact ((HK1.out.later HBE.out).cell k).trans (HRCk.out k hlt hq)
          have z2 : wr.cell? ⟨w.heap.size, k, none⟩ = some (.int .u64 z) := by rw [← hz]; exact ((B3P.out.later HBE.out).cell k).trans (HRAk.out k hlt)
          clear hq hlt hk hz
          go_wp2
          go_quiet (fail)
          go_wp2
          go_roundw
          case rel => exact ⟨k + 1, HK.out, by go_num, Lib.hid (below_drewN HBE.out _)⟩
          case measure => have := HK.out; simp [intOf]; omega
      · have hlti : ¬ (k : Int) < 32 := by omega
        have HBF : Hid (Below w.heap.size w wr) := Lib.hid (HBP.out.trans (HBE.out.mono HBP.out.size))
        have hsf := HSF.out wr
        have HSW : Hid (Calls Tryd.prog 9 #[.agg #[.int .u64 0, .int .u64 0, .int .u64 0, .int .u64 0, .int .u64 0, .int .u64 0, .int .u64 0, .int .u64 0, .int .u64 0, .int .u64 0, .int .u64 0, .int .u64 0, .int .u64 0, .int .u64 0, .int .u64 0, .int .u64 0, .int .u64 0, .int .u64 0, .int .u64 0, .int .u64 0, .int .u64 0, .int .u64 0, .int .u64 0, .int .u64 0, .int .u64 0, .int .u64 0, .int .u64 0, .int .u64 0, .int .u64 0, .int .u64 0, .int .u64 0, .int .u64 0, .int .u64 a3, .int .u64 0], .pointer none] wr fun r w' => r = .returned (.tuple #[.agg (St.zero.setP a3).C, .agg (outC 3 1 a3)]) ∧ Below wr.heap.size wr w') := Lib.hid hsf
        clear hsf hlt
        go_wp2_with fail
        refine HSW.out.mono ?_
        rintro r10 w10 ⟨rfl, hb10⟩
        have HBG : Hid (Below w.heap.size w (pairW w10 (St.zero.setP a3).C (outC 3 1 a3))) := Lib.hid ((HBF.out.trans (hb10.mono HBF.out.size)).trans ((pair_below w10 (St.zero.setP a3).C (outC 3 1 a3)).mono (Nat.le_trans HBF.out.size hb10.size)))
        have hm1 := pair_1 w10 (St.zero.setP a3).C (outC 3 1 a3)
        have hm2 := pair_2 w10 (St.zero.setP a3).C (outC 3 1 a3)
        have q4 : (pairW w10 (St.zero.setP a3).C (outC 3 1 a3)).cell? ⟨w10.heap.size + 1, 0, none⟩ = some (.int .i64 3) := hm2.cell 0
        have q5 : (pairW w10 (St.zero.setP a3).C (outC 3 1 a3)).cell? ⟨w10.heap.size + 1, 1, none⟩ = some (.int .i64 1) := hm2.cell 1
        have q6 : (pairW w10 (St.zero.setP a3).C (outC 3 1 a3)).cell? ⟨w10.heap.size + 1, 2, none⟩ = some (.int .u64 a3) := hm2.cell 2
        have HM1 := Lib.hid hm1
        have HSS3 := Lib.hid (st_size H3L.out)
        have HZZ3 := Lib.hid (zs_size H3L.out)
        clear hb10 hm1 hm2 HSW
        go_wp2_with (first | (refine wpList_alloc_eq rfl 26 rfl St.zero.C zs_info ?_) | (refine wpList_store_row rfl 26 _ _ rfl w10.heap.size (St.zero.setP a3).C rfl rfl _ _ (pair_a w10) HSS3.out HZZ3.out (St.one _) ?_) | (refine wpList_store_row rfl 36 _ _ rfl (w10.heap.size + 1) (outC 3 1 a3) rfl rfl _ _ (pair_b w10 (St.zero.setP a3).C) (by kernel_rfl) rfl (out_one _ _ _) ?_; rw [show ((((w10.alloc (.cells St.zero.C 26)).alloc (.cells #[.int .i64 0, .int .i64 0, .int .u64 0] 36)).setRow w10.heap.size (St.zero.setP a3).C).setRow (w10.heap.size + 1) (outC 3 1 a3)) = pairW w10 (St.zero.setP a3).C (outC 3 1 a3) from rfl]) | (refine wpList_load_row_g (by rfl) 26 _ rfl w10.heap.size rfl _ (St.zero.setP a3).C (0, 0) _ HM1.out Tryd.underlying26 rfl HSS3.out ?_) | (refine wpList_same_g H3L.out (by rfl) (.tmp 81) (.tmp 83) _ rfl rfl rfl ?_) | fail)
        go_ret
        exact ⟨rfl, HBG.out⟩
  · go_wp2_with (first | (refine wpList_alloc_eq rfl 26 rfl St.zero.C zs_info ?_) | (refine wpList_store_row rfl 26 _ _ rfl w9.heap.size RC rfl rfl _ _ HPA.out HS1z.out HZ1z.out HO1z.out ?_) | (refine wpList_store_row rfl 36 _ _ rfl (w9.heap.size + 1) OC rfl rfl _ _ HPB.out HS2z.out HZ2z.out HO2z.out ?_; rw [show ((((w9.alloc (.cells St.zero.C 26)).alloc (.cells #[.int .i64 0, .int .i64 0, .int .u64 0] 36)).setRow w9.heap.size RC).setRow (w9.heap.size + 1) OC) = pairW w9 RC OC from rfl, HWP.out]) | fail)
    clear q33 q0
    go_loopw [14] (fun i wr => ∃ k : Nat, k ≤ 32 ∧ i = .int .i64 k ∧ Hid (Below wP.heap.size wP wr)) (fun i _ => 32 - (intOf i).toNat)
    case atStart => exact ⟨0, Nat.zero_le _, by go_num, Lib.hid (Below.refl _ _)⟩
    case round =>
      obtain ⟨k, hk, rfl, HBE⟩ := hrel
      by_cases hlt : k < 32
      · have hlti : (k : Int) < 32 := by omega
        have HK := Lib.hid hlt
        have hq31 := HQ31.out
        have hav := HAV.out
        by_cases hq : k = q
        · have hgd : ((k : Int) != (q : Int)) = false := by rw [hq]; simp
          have HGQ := Lib.hid hq
          clear hq hlt hk
          go_wp2
          go_quiet (fail)
          go_wp2
          go_roundw
          case rel => exact ⟨k + 1, HK.out, by go_num, Lib.hid (below_drewN HBE.out _)⟩
          case measure => have := HK.out; simp [intOf]; omega
        · have hgd : ((k : Int) != (q : Int)) = true := by simp; omega
          obtain ⟨z, hz⟩ : ∃ z, s.R.getD k 0 = z := ⟨_, rfl⟩
          have z1 : wr.cell? ⟨w9.heap.size, k, none⟩ = some (.int .u64 z) := by rw [← hz]; exact ((HK1.out.later HBE.out).cell k).trans (HRCk.out k hlt hq)
          have z2 : wr.cell? ⟨w.heap.size, k, none⟩ = some (.int .u64 z) := by rw [← hz]; exact ((B3P.out.later HBE.out).cell k).trans (HRAk.out k hlt)
          clear hq hlt hk hz
          go_wp2
          go_quiet (fail)
          go_wp2
          go_roundw
          case rel => exact ⟨k + 1, HK.out, by go_num, Lib.hid (below_drewN HBE.out _)⟩
          case measure => have := HK.out; simp [intOf]; omega
      · have hlti : ¬ (k : Int) < 32 := by omega
        have HBF : Hid (Below w.heap.size w wr) := Lib.hid (HBP.out.trans (HBE.out.mono HBP.out.size))
        have hsf := HSF.out wr
        have HSW : Hid (Calls Tryd.prog 9 #[.agg #[.int .u64 0, .int .u64 0, .int .u64 0, .int .u64 0, .int .u64 0, .int .u64 0, .int .u64 0, .int .u64 0, .int .u64 0, .int .u64 0, .int .u64 0, .int .u64 0, .int .u64 0, .int .u64 0, .int .u64 0, .int .u64 0, .int .u64 0, .int .u64 0, .int .u64 0, .int .u64 0, .int .u64 0, .int .u64 0, .int .u64 0, .int .u64 0, .int .u64 0, .int .u64 0, .int .u64 0, .int .u64 0, .int .u64 0, .int .u64 0, .int .u64 0, .int .u64 0, .int .u64 a3, .int .u64 0], .pointer none] wr fun r w' => r = .returned (.tuple #[.agg (St.zero.setP a3).C, .agg (outC 3 1 a3)]) ∧ Below wr.heap.size wr w') := Lib.hid hsf
        clear hsf hlt
        go_wp2_with fail
        refine HSW.out.mono ?_
        rintro r10 w10 ⟨rfl, hb10⟩
        have HBG : Hid (Below w.heap.size w (pairW w10 (St.zero.setP a3).C (outC 3 1 a3))) := Lib.hid ((HBF.out.trans (hb10.mono HBF.out.size)).trans ((pair_below w10 (St.zero.setP a3).C (outC 3 1 a3)).mono (Nat.le_trans HBF.out.size hb10.size)))
        have hm1 := pair_1 w10 (St.zero.setP a3).C (outC 3 1 a3)
        have hm2 := pair_2 w10 (St.zero.setP a3).C (outC 3 1 a3)
        have q4 : (pairW w10 (St.zero.setP a3).C (outC 3 1 a3)).cell? ⟨w10.heap.size + 1, 0, none⟩ = some (.int .i64 3) := hm2.cell 0
        have q5 : (pairW w10 (St.zero.setP a3).C (outC 3 1 a3)).cell? ⟨w10.heap.size + 1, 1, none⟩ = some (.int .i64 1) := hm2.cell 1
        have q6 : (pairW w10 (St.zero.setP a3).C (outC 3 1 a3)).cell? ⟨w10.heap.size + 1, 2, none⟩ = some (.int .u64 a3) := hm2.cell 2
        have HM1 := Lib.hid hm1
        have HSS3 := Lib.hid (st_size H3L.out)
        have HZZ3 := Lib.hid (zs_size H3L.out)
        clear hb10 hm1 hm2 HSW
        go_wp2_with (first | (refine wpList_alloc_eq rfl 26 rfl St.zero.C zs_info ?_) | (refine wpList_store_row rfl 26 _ _ rfl w10.heap.size (St.zero.setP a3).C rfl rfl _ _ (pair_a w10) HSS3.out HZZ3.out (St.one _) ?_) | (refine wpList_store_row rfl 36 _ _ rfl (w10.heap.size + 1) (outC 3 1 a3) rfl rfl _ _ (pair_b w10 (St.zero.setP a3).C) (by kernel_rfl) rfl (out_one _ _ _) ?_; rw [show ((((w10.alloc (.cells St.zero.C 26)).alloc (.cells #[.int .i64 0, .int .i64 0, .int .u64 0] 36)).setRow w10.heap.size (St.zero.setP a3).C).setRow (w10.heap.size + 1) (outC 3 1 a3)) = pairW w10 (St.zero.setP a3).C (outC 3 1 a3) from rfl]) | (refine wpList_load_row_g (by rfl) 26 _ rfl w10.heap.size rfl _ (St.zero.setP a3).C (0, 0) _ HM1.out Tryd.underlying26 rfl HSS3.out ?_) | (refine wpList_same_g H3L.out (by rfl) (.tmp 81) (.tmp 83) _ rfl rfl rfl ?_) | fail)
        go_ret
        exact ⟨rfl, HBG.out⟩
set_option maxRecDepth 100000 in
set_option maxHeartbeats 1600000 in
theorem walk (a0 : Int) (z1 : List Int) (a2 : Int) (a3 : Int) (w : World) (hTB : Tb w) (w0 : (Lit.int .u64 a0).wf = true) (w1 : IsArr .u64 32 z1) (w2 : (Lit.int .u64 a2).wf = true) (w3 : (Lit.int .u64 a3).wf = true) :
    Calls Tryd.prog 3 #[.int .u64 a0, .agg (z1.map (Value.int .u64)).toArray, .int .u64 a2, .int .u64 a3] w fun e w' => e = .returned (.bool true) ∧ Below w.heap.size w w' := by
  exact walkAll w hTB a0 z1 a2 a3 w0 w1 w2 w3

set_option maxRecDepth 100000 in
theorem lifted (os : Os) (started : os.Started) (H : Type) (enc : TypeId × Value → H) :
    ReturnsInHanded {} Tryd.checked os 3 .any (fun w args => (Rows.cpuStaysSpec.pre enc Tryd.prog Tryd.f3 [] false w args ∧ laidMetH Tryd.prog laid14 w) ∧ sizedMet enc Tryd.prog Tryd.f3 (OpenSpec.ofChange Rows.cpuStaysSpec) false w args) (Rows.cpuStaysSpec.post enc Tryd.prog Tryd.f3 false true false false) := by
  refine wrapLaid (C := Tryd.checked) (laid := laid14) own started (by kernel_rfl) Tryd.func3
    (ChangeSpec.witness_shaped (enc := enc) (C := Tryd.checked) (os := os) (X := fun w _ => laidMetH Tryd.prog laid14 w) false (World.laidAll Tryd.prog os laid14) #[.int .u64 0, .agg #[.int .u64 0, .int .u64 0, .int .u64 0, .int .u64 0, .int .u64 0, .int .u64 0, .int .u64 0, .int .u64 0, .int .u64 0, .int .u64 0, .int .u64 0, .int .u64 0, .int .u64 0, .int .u64 0, .int .u64 0, .int .u64 0, .int .u64 0, .int .u64 0, .int .u64 0, .int .u64 0, .int .u64 0, .int .u64 0, .int .u64 0, .int .u64 0, .int .u64 0, .int .u64 0, .int .u64 0, .int .u64 0, .int .u64 0, .int .u64 0, .int .u64 0, .int .u64 0], .int .u64 0, .int .u64 0] 8 (World.laidAll_os _ _ _) (World.shaped_of_ZipB (by kernel_rfl) (by kernel_rfl)) (by kernel_rfl) (by kernel_rfl) (by kernel_rfl)
      (by rw [MakeChecks.laidMetH_plain _ _ _ (by kernel_rfl)]; exact laidMet_laidAll _ (by kernel_rfl) (by kernel_rfl))) ?_
  intro W base args ds gs before hval0 hW hL hsh
  have hval : ∀ (j : Nat) t v, Tryd.f3.params[j]? = some t → args[j]? = some v → Value.okWide Tryd.prog W .any base t v := hval0
  have hW' := hW
  obtain ⟨p, q, hA0, hV, rfl, hfz, hnd⟩ := hW
  have hA : DataW.TrodAll enc Tryd.prog W 0 (fun _ => true) true Tryd.f3.params.toList args.toList ds p := hA0
  rw [Tryd.params3] at hA hval
  obtain ⟨v0, vs0, d0, ds0, p0, q0, hargs, rfl, rfl, h0, r0⟩ := trodAll_cons hA
  obtain ⟨v1, vs1, d1, ds1, p1, q1, rfl, rfl, rfl, h1, r1⟩ := trodAll_cons r0
  obtain ⟨v2, vs2, d2, ds2, p2, q2, rfl, rfl, rfl, h2, r2⟩ := trodAll_cons r1
  obtain ⟨v3, vs3, d3, ds3, p3, q3, rfl, rfl, rfl, h3, r3⟩ := trodAll_cons r2
  obtain ⟨rfl, rfl, rfl⟩ := trodAll_nil r3
  obtain rfl : args = #[v0, v1, v2, v3] := by cases args; simp_all
  obtain ⟨rfl, rfl⟩ := trodVars_none hV
  obtain ⟨a0, rfl, rfl, rfl, w0⟩ := open_int Tryd.underlying22 (hval 0 22 v0 rfl rfl) h0
  obtain ⟨cs1, rfl, hz1, _⟩ : ∃ cs, v1 = .agg cs ∧ cs.size = Tryd.prog.cellsOf 23 ∧ Row.okWide Tryd.prog W .any base 23 cs := by
    have := hval 1 23 v1 rfl rfl
    simpa [Value.okWide, Tryd.underlying23] using this
  rw [show Tryd.prog.cellsOf 23 = 32 from by kernel_rfl] at hz1
  have k1 := h1
  have lt1 : ∀ x ∈ p1, x.block < W.heap.size := by obtain ⟨m, hm⟩ := k1; exact DataW.trod_lt m _ _ _ hm
  obtain ⟨z1, w1, rfl⟩ : ∃ zs, IsArr .u64 32 zs ∧ cs1 = (zs.map (Value.int .u64)).toArray := by
    obtain ⟨fuel, hf⟩ := h1
    exact open_arr Tryd.underlying23 Tryd.underlying22 (by kernel_rfl) hz1 hf
  obtain ⟨a2, rfl, rfl, rfl, w2⟩ := open_int Tryd.underlying22 (hval 2 22 v2 rfl rfl) h2
  obtain ⟨a3, rfl, rfl, rfl, w3⟩ := open_int Tryd.underlying22 (hval 3 22 v3 rfl rfl) h3
  clear hA0 hval0
  refine (walk a0 z1 a2 a3 W (tb_of_laid hL hsh) w0 w1 w2 w3).mono fun e W' ⟨he, bel⟩ => ?_
  subst he
  exact ⟨_, rfl, _, _, _, [], _, [], hW', trodAll_mk1 (shut_bool Tryd.underlying4 _), (trodAll_cons_mk (shut_int Tryd.underlying22 w0) (trodAll_cons_mk (Below.trod laidOut (by kernel_rfl) (of_decide_eq_true (by kernel_rfl)) k1 bel lt1) (trodAll_cons_mk (shut_int Tryd.underlying22 w2) (trodAll_cons_mk (shut_int Tryd.underlying22 w3) trodAll_mk0)))), rfl, bel.frame _, fun h => by cases h⟩

theorem over : Rows.cpuStaysRow.holds Tryd.pinned (OpenSpec.ofChange Rows.cpuStaysSpec) :=
  OpenClaim.holds_of_wide 3 Tryd.f3 rfl rfl rfl rfl rfl rfl rfl ⟨rfl, rfl, rfl, rfl, rfl⟩ rfl rfl rfl rfl rfl (by kernel_rfl) Tryd.func3 (by kernel_rfl)
    (of_decide_eq_true (by kernel_rfl)) (by unfold Func.isWrapper; first | (rw [if_pos (by decide +kernel)]; kernel_rfl) | (rw [if_neg (by decide +kernel)]; exact ⟨rfl, rfl⟩))
    (fun os started H enc _ => lifted os started H enc)

theorem proved : Rows.CpuStaysCardSaid :=
  Claim7.holds_tied_plain_at .later [] [.data, .data, .data] true (true, "ec38454a876112527ff40a55af108fd71bc7292a9eb3415f3092fe2106ec21a0") false over (fun _ h => by cases h) (by kernel_rfl) (fun _ h => by cases h) cpuStays_row_tie rfl ⟨rfl, rfl⟩ (by kernel_rfl) rfl
    (fun f fn hf hfn => by
      obtain rfl : f = 3 := (Option.some.inj ((show Tryd.prog.funcNamed "dormouse/dormouselaw14.CpuStays" = some 3 by kernel_rfl).symm.trans hf)).symm
      obtain rfl : fn = Tryd.f3 := (Option.some.inj (Tryd.func3.symm.trans hfn)).symm
      exact ⟨by kernel_rfl, fun j t ht => by
        rw [Tryd.params3] at ht
        have hm : t ∈ [22, 23, 22, 22] := by simpa using Array.mem_of_getElem? ht
        have hall : ([22, 23, 22, 22].all fun u => !Tryd.prog.wantsStandIn u) = true := by kernel_rfl
        exact (show Tryd.prog.wantsStandIn t = false by simpa using List.all_eq_true.1 hall t hm)⟩)
    (by kernel_rfl)
#print axioms proved
end Go.Proofs.YtkhfmgifpppcmaaDoor.cpuStays
