/-
  What is proved here: DynamicTwice: entries of which any one is there twice, or cut at their end, tell what the reference says, or are refused with the same error.
  Conditions: none of our own; the law's row says what its input is.
-/
import Derived.Test.YtngjnbfjlchfgaaRows
import Derived.Test.YtngjnbfjlchfgaaDynEnd
import Derived.Test.YtngjnbfjlchfgaaArr
import Derived.Test.YtngjnbfjlchfgaaApp
import Derived.Test.YtngjnbfjlchfgaaMask
import Derived.WalkKit
import Derived.ProofKit
import Derived.OpenShut
import Derived.ShutString
import Derived.ChangeOld
import Derived.Below
namespace Go.Proofs.Ytngjnbfjlchfgaa.dynamicTwice
open Go.ChangeShapes Go.WideShapes Go.ChangeAt Go.RowKit
open Go.ChangeMaps (open_string shut_string)
set_option linter.unusedVariables false

theorem own : ownKnob Try.prog.godebug = none := by kernel_rfl
theorem laidOut : laidOutB Try.prog = true := by kernel_rfl

theorem fr100 (y : Nat → Value) : frameOf 100 y = #[y 0, y 1, y 2, y 3, y 4, y 5, y 6, y 7, y 8, y 9, y 10, y 11, y 12, y 13, y 14, y 15, y 16, y 17, y 18, y 19, y 20, y 21, y 22, y 23, y 24, y 25, y 26, y 27, y 28, y 29, y 30, y 31, y 32, y 33, y 34, y 35, y 36, y 37, y 38, y 39, y 40, y 41, y 42, y 43, y 44, y 45, y 46, y 47, y 48, y 49, y 50, y 51, y 52, y 53, y 54, y 55, y 56, y 57, y 58, y 59, y 60, y 61, y 62, y 63, y 64, y 65, y 66, y 67, y 68, y 69, y 70, y 71, y 72, y 73, y 74, y 75, y 76, y 77, y 78, y 79, y 80, y 81, y 82, y 83, y 84, y 85, y 86, y 87, y 88, y 89, y 90, y 91, y 92, y 93, y 94, y 95, y 96, y 97, y 98, y 99] := rfl
theorem seven_two (V : List Int) : 2 ≤ (sevenD V 7).length := by
  obtain ⟨R, hR⟩ := sevenD_more V 3 7 (by decide)
  have h2 := sevenD_succ V 2
  have h1 := sevenD_succ V 1
  rw [if_pos (by simp [keepD])] at h1 h2
  rw [hR, h2, h1]
  simp only [List.length_append, List.length_cons, List.length_nil]
  omega
set_option maxRecDepth 100000 in
set_option maxHeartbeats 1600000 in
theorem walk (a0 : Option Addr) (len0 cap0 : Nat) (z0 : List Int) (z1 : List Int) (a2 : Int) (a3 : Int) (w : World) (w0 : IsRow .u64 w a0 len0 cap0 z0) (w1 : IsArr .u64 7 z1) (w2 : (Lit.int .i64 a2).wf = true) (w3 : (Lit.int .i64 a3).wf = true) :
    Calls Try.prog 8 #[.slice a0 len0 cap0, .agg (z1.map (Value.int .u64)).toArray, .int .i64 a2, .int .i64 a3] w fun e w' => e = .returned (.bool true) ∧ Below w.heap.size w w' := by
  obtain ⟨hs, hcap, hcm⟩ := w0.nus
  obtain ⟨x0, x1, x2, x3, x4, x5, x6, rfl⟩ := list7 w1.1
  have hvb : ∀ x ∈ [x0, x1, x2, x3, x4, x5, x6], 0 ≤ x ∧ x ≤ 18446744073709551615 := fun x hx => bd_u64 (w1.2 x hx)
  obtain ⟨i0, hi, hz0, hz1, hz2⟩ := info_parts info_u8
  have HI := Lib.hid hi
  have HZ0 := Lib.hid hz0
  have HZ1 := Lib.hid hz1
  have HZ2 := Lib.hid hz2
  have HS0 := Lib.hid hs
  have HVB := Lib.hid hvb
  have HW0 : Hid (Below w.heap.size w (w.alloc (.cells #[.int .u64 x0, .int .u64 x1, .int .u64 x2, .int .u64 x3, .int .u64 x4, .int .u64 x5, .int .u64 x6] 24))) := Lib.hid ((Below.refl _ _).alloc (Nat.le_refl _) _)
  have HNU : Hid (∀ w', Below (w.alloc (.cells #[.int .u64 x0, .int .u64 x1, .int .u64 x2, .int .u64 x3, .int .u64 x4, .int .u64 x5, .int .u64 x6] 24)).heap.size (w.alloc (.cells #[.int .u64 x0, .int .u64 x1, .int .u64 x2, .int .u64 x3, .int .u64 x4, .int .u64 x5, .int .u64 x6] 24)) w' → Nus w' w'.heap.size (some ⟨w.heap.size, 0, none⟩) 7 [x0, x1, x2, x3, x4, x5, x6]) := Lib.hid (fun w' h => by
    have h1 := Nus.lit w [x0, x1, x2, x3, x4, x5, x6] HVB.out 24
    have h2 : w.heap.size + 1 ≤ w'.heap.size := by have := h.size; simp only [World.size_alloc] at this; exact this
    exact (h1.below (h.mono (by simp))).more h2)
  have HPD := Lib.hid (putBy_bd (z0.take len0) [x0, x1, x2, x3, x4, x5, x6])
  have HPL := Lib.hid (putBy_len (z0.take len0) [x0, x1, x2, x3, x4, x5, x6])
  have HP2 := Lib.hid (seven_two [x0, x1, x2, x3, x4, x5, x6])
  have HP7 := Lib.hid (seven_le [x0, x1, x2, x3, x4, x5, x6] 7)
  clear w0 w1 w2 w3 hs hvb hi hz0 hz1 hz2
  simp only [List.map_cons, List.map_nil]
  go_enter Try.func8, Try.ntmps8
  go_wp2_with fail
  refine (awake_any _).mono ?_
  rintro r v1 ⟨rfl, hb1⟩
  have HB1 := Lib.hid (HW0.out.trans (hb1.mono HW0.out.size))
  have HNV := Lib.hid (HNU.out _ hb1)
  clear hb1
  by_cases h4k : 50 < len0
  · have h4i : (50 : Int) < len0 := by omega
    go_wp2
    go_ret
    exact ⟨rfl, HB1.out⟩
  · have h4i : (len0 : Int) ≤ 50 := by omega
    have HRP := Lib.hid (rput5_ok v1.heap.size a0 (some ⟨w.heap.size, 0, none⟩) len0 cap0 7 (z0.take len0) [x0, x1, x2, x3, x4, x5, x6] v1 ((HS0.out.below HB1.out).more HB1.out.size) HNV.out (Nat.le_refl _) (by omega))
    obtain ⟨q, hq⟩ : ∃ q, len0 + (sevenD [x0, x1, x2, x3, x4, x5, x6] 7).length = q := ⟨_, rfl⟩
    have HLQ : Hid ((putBy (z0.take len0) [x0, x1, x2, x3, x4, x5, x6]).length = 16 * q + 16) := Lib.hid (by rw [HPL.out, HS0.out.hl, hq])
    have hq2 : 2 ≤ q := by have := HP2.out; omega
    have hq7 : q ≤ 57 := by have := HP7.out; omega
    clear hq HP2 HP7 HPL
    generalize putBy (z0.take len0) [x0, x1, x2, x3, x4, x5, x6] = zs at HRP HPD HLQ
    rw [HLQ.out] at HRP
    go_wp2_with fail
    refine HRP.out.mono ?_
    rintro r v2 ⟨⟨u, rfl, ho⟩, hb2⟩
    obtain ⟨g2, c2, rfl, -, hc2, hcm2⟩ := own_some_cap ho (by omega)
    have HO2 := Lib.hid ho
    have HB2 := Lib.hid (HB1.out.trans (hb2.mono HB1.out.size))
    clear ho hb2 HRP
    obtain ⟨ma, -, hma⟩ := i64_mask a2 65535 (by decide)
    obtain ⟨mc, -, hmc⟩ := i64_mask a3 65535 (by decide)
    have hma' : bits BinOp.and IntKind.i64 a2 65535 = (ma : Int) := hma
    have hmc' : bits BinOp.and IntKind.i64 a3 65535 = (mc : Int) := hmc
    have hq0 : (16 * (q : Int) + 16) / 16 = q + 1 := by omega
    obtain ⟨κ, hκ⟩ : ∃ κ : Nat, κ = ma % q := ⟨_, rfl⟩
    have hκq : κ < q := by rw [hκ]; exact Nat.mod_lt _ (by omega)
    have hrem : ((ma : Int)).tmod (q : Int) = (κ : Int) := by rw [hκ]; exact (Int.ofNat_tmod ma q).symm
    have hκi : (κ : Int) < q := by omega
    have hqi7 : (q : Int) ≤ 57 := by omega
    have hc2i : 16 * (q : Int) + 16 ≤ c2 := by omega
    have hk16 : 16 * (κ : Int) + 16 ≤ c2 := by omega
    have hlk : 16 * κ + 16 - 16 * κ = 16 := by omega
    clear hma hmc hκ
    have hby2 := Bys.own HPD.out HO2.out
    have HP1 : Hid (Bys v2 v2.heap.size (some ⟨g2, 16 * κ, none⟩) (16 * κ + 16 - 16 * κ) (piece zs (16 * κ) 16)) := Lib.hid (by
      have h := hby2.sub (p := 16 * κ) (n := 16) (by omega)
      rw [hlk]
      rwa [Nat.zero_add] at h)
    have HP2 := Lib.hid hby2
    clear hby2
    go_wp2_with (at_builtin; refine wpList_append_bys rfl _ _ 28 rfl v2.heap.size 5 i0 (.int .u8 0) 1 Try.underlying28 HI.out HZ0.out HZ1.out HZ2.out rfl _ 0 [] rfl (World.ownsRow_nil _ _ _ _) _ _ _ _ (piece zs (16 * κ) 16) rfl HP1.out (fun h => by cases h) (by unfold maxLen; omega) (by omega) (Nat.le_refl _) ?_)
    intro u3 v3 ho3 hg3
    have HO3 := Lib.hid ho3
    have HB3 : Hid (Below v2.heap.size v2 v3) := Lib.hid ((Below.refl _ _).grown hg3 (Nat.le_refl _) (fun q e => by cases e))
    have HP3 := Lib.hid (HP2.out.below HB3.out)
    clear ho3 hg3
    go_wp2_with (at_builtin; refine wpList_append_bys rfl _ _ 28 rfl v2.heap.size 5 i0 (.int .u8 0) 1 Try.underlying28 HI.out HZ0.out HZ1.out HZ2.out rfl _ 16 _ rfl HO3.out _ (16 * q + 16) _ _ zs rfl HP3.out (fun h => by cases h) (by unfold maxLen; omega) (by omega) HB3.out.size ?_)
    intro u4 v4 ho4 hg4
    rw [← List.map_append, show 16 + (16 * q + 16) = 16 * q + 32 by omega] at ho4
    obtain ⟨g4, c4, rfl, -, hc4, hcm4⟩ := own_some_cap ho4 (by omega)
    have HRZ : Hid (∀ n ∈ piece zs (16 * κ) 16 ++ zs, 0 ≤ n ∧ n ≤ 255) := Lib.hid (by
      intro n hn
      rcases List.mem_append.1 hn with hn | hn
      · exact piece_mem HPD.out n hn
      · exact HPD.out n hn)
    have HB4 : Hid (Below w.heap.size w v4) := Lib.hid (by
      have h := HB3.out.grown hg4 HB3.out.size (fun q e => (HO3.out.lt q e).1)
      exact HB2.out.trans (h.mono HB2.out.size))
    have HO4 := Lib.hid ho4
    generalize piece zs (16 * κ) 16 ++ zs = cs at HRZ HO4
    have HS : Hid (∀ w1, Below v4.heap.size v4 w1 → Bys w1 v4.heap.size (some ⟨g4, 0, none⟩) (16 * q + 32) cs) := Lib.hid (fun w1 h1 => (Bys.own HRZ.out HO4.out).below h1)
    obtain ⟨δ, hδ⟩ : ∃ δ : Nat, δ = mc % (16 * q + 33) := ⟨_, rfl⟩
    have hδq : δ < 16 * q + 33 := by rw [hδ]; exact Nat.mod_lt _ (by omega)
    have hrem2 : ((mc : Int)).tmod (16 * (q : Int) + 33) = (δ : Int) := by
      rw [hδ, show 16 * (q : Int) + 33 = ((16 * q + 33 : Nat) : Int) by omega]; exact (Int.ofNat_tmod mc (16 * q + 33)).symm
    have hrem3 : ((mc : Int)).tmod (16 * (q : Int) + 32 + 1) = (δ : Int) := by rw [show 16 * (q : Int) + 32 + 1 = 16 * (q : Int) + 33 by omega]; exact hrem2
    have hδi : (δ : Int) < 16 * q + 33 := by omega
    have hc4i : 16 * (q : Int) + 32 ≤ c4 := by omega
    have hδc : (δ : Int) ≤ c4 := by omega
    clear ho4 hg4 hδ HO3 HP1 HP2 HP3 HO2
    obtain ⟨Ep, Sp, hES⟩ : ∃ E S, getDy cs = (E, S) := ⟨_, _, rfl⟩
    have HG1 := Lib.hid (get5_any _ _ _ _ _ _ (HS.out _ (Below.refl _ _)) (Nat.le_refl _) (by omega) hc4 hcm4)
    have HG2 := Lib.hid (fun w1 h1 => rget5_any _ _ _ c4 _ w1 (HS.out w1 h1) (Below.size h1) (by omega))
    rw [hES] at HG1 HG2
    clear hES
    go_wp2_with fail
    refine HG1.out.mono ?_
    rintro r v2p ⟨ht, hb2⟩
    obtain ⟨nap, nnp, ncp, xp0, xp1, xp2, xp3, xp4, xp5, xp6, hv, rfl, hnu, hnnp, hvb⟩ := ht.parts
    have HB2 : Hid (Below v4.heap.size v4 (v2p.alloc (.cells #[.slice nap nnp ncp, .int .u64 xp0, .int .u64 xp1, .int .u64 xp2, .int .u64 xp3, .int .u64 xp4, .int .u64 xp5, .int .u64 xp6] 27))) := Lib.hid (hb2.alloc hb2.size _)
    have HK2p : Hid (∀ w', Below (v2p.alloc (.cells #[.slice nap nnp ncp, .int .u64 xp0, .int .u64 xp1, .int .u64 xp2, .int .u64 xp3, .int .u64 xp4, .int .u64 xp5, .int .u64 xp6] 27)).heap.size (v2p.alloc (.cells #[.slice nap nnp ncp, .int .u64 xp0, .int .u64 xp1, .int .u64 xp2, .int .u64 xp3, .int .u64 xp4, .int .u64 xp5, .int .u64 xp6] 27)) w' → Blk w' v2p.heap.size #[.slice nap nnp ncp, .int .u64 xp0, .int .u64 xp1, .int .u64 xp2, .int .u64 xp3, .int .u64 xp4, .int .u64 xp5, .int .u64 xp6] 27 ∧ Nus w' w'.heap.size nap nnp Sp.nd) := Lib.hid (fun w' h => ⟨(Blk.new _ _ _).later h, (((hnu.below ((Below.refl _ _).alloc (Nat.le_refl _) _)).more (by rw [World.size_alloc]; omega)).below h).more h.size⟩)
    have HNN := Lib.hid hnu.hl
    have HMDp := Lib.hid (fun w1 => model_parts nap nnp ncp xp0 xp1 xp2 xp3 xp4 xp5 xp6 w1 (hv ▸ hvb))
    clear ht hb2 hnu hvb
    go_wp2_with fail
    refine (HG2.out _ HB2.out).mono ?_
    rintro r v3p ⟨⟨rap, rn, rcp, gap, rfl, hnr, hng, hrn⟩, hb3⟩
    obtain rfl : nnp = rn := by have h5 := hnr.hl; have h6 := HNN.out; omega
    rw [hv] at hng
    have HAp : Hid (Below v4.heap.size v4 (v3p.alloc (.cells #[.slice rap nnp rcp, .slice (some ⟨gap, 0, none⟩) 7 7] 32))) := Lib.hid (by
      have h := HB2.out.trans (hb3.mono HB2.out.size)
      exact h.alloc h.size _)
    have HBXp : Hid (∀ w', Below (v3p.alloc (.cells #[.slice rap nnp rcp, .slice (some ⟨gap, 0, none⟩) 7 7] 32)).heap.size (v3p.alloc (.cells #[.slice rap nnp rcp, .slice (some ⟨gap, 0, none⟩) 7 7] 32)) w' → Blk w' v2p.heap.size #[.slice nap nnp ncp, .int .u64 xp0, .int .u64 xp1, .int .u64 xp2, .int .u64 xp3, .int .u64 xp4, .int .u64 xp5, .int .u64 xp6] 27 ∧ Blk w' v3p.heap.size #[.slice rap nnp rcp, .slice (some ⟨gap, 0, none⟩) 7 7] 32 ∧ Nus w' w'.heap.size nap nnp Sp.nd ∧ Nus w' w'.heap.size rap nnp Sp.nd ∧ Nus w' w'.heap.size (some ⟨gap, 0, none⟩) 7 [xp0, xp1, xp2, xp3, xp4, xp5, xp6]) := Lib.hid (fun w' h => by
      have h0 : Below v3p.heap.size v3p (v3p.alloc (.cells #[.slice rap nnp rcp, .slice (some ⟨gap, 0, none⟩) 7 7] 32)) := (Below.refl _ _).alloc (Nat.le_refl _) _
      have h1 := h0.trans (h.mono h0.size)
      have h2 := HK2p.out w' (hb3.trans (h1.mono hb3.size))
      exact ⟨h2.1, (Blk.new _ _ _).later h, h2.2, (hnr.below h1).more h1.size, (hng.below h1).more h1.size⟩)
    clear hb3 hnr hng hv HK2p HG1 HG2 HB2 HNN
    have HT : Hid (∀ w1, Below (v3p.alloc (.cells #[.slice rap nnp rcp, .slice (some ⟨gap, 0, none⟩) 7 7] 32)).heap.size (v3p.alloc (.cells #[.slice rap nnp rcp, .slice (some ⟨gap, 0, none⟩) 7 7] 32)) w1 → Bys w1 (v3p.alloc (.cells #[.slice rap nnp rcp, .slice (some ⟨gap, 0, none⟩) 7 7] 32)).heap.size (some ⟨g4, 0, none⟩) δ (piece cs 0 δ)) := Lib.hid (fun w1 h1 => by
      have h2 := HS.out w1 (HAp.out.trans (h1.mono HAp.out.size))
      exact (h2.sub (p := 0) (n := δ) (by omega)).more HAp.out.size)
    obtain ⟨Er, Sr, hES⟩ : ∃ E S, getDy (piece cs 0 δ) = (E, S) := ⟨_, _, rfl⟩
    have HG1 := Lib.hid (get5_any _ _ _ _ _ _ (HT.out _ (Below.refl _ _)) (Nat.le_refl _) (by omega) (show δ ≤ c4 by omega) hcm4)
    have HG2 := Lib.hid (fun w1 h1 => rget5_any _ _ _ c4 _ w1 (HT.out w1 h1) (Below.size h1) (by omega))
    rw [hES] at HG1 HG2
    clear hES
    go_wp2_with fail
    refine HG1.out.mono ?_
    rintro r v2r ⟨ht, hb2⟩
    obtain ⟨nar, nnr, ncr, xr0, xr1, xr2, xr3, xr4, xr5, xr6, hv, rfl, hnu, hnnr, hvb⟩ := ht.parts
    have HB2 : Hid (Below (v3p.alloc (.cells #[.slice rap nnp rcp, .slice (some ⟨gap, 0, none⟩) 7 7] 32)).heap.size (v3p.alloc (.cells #[.slice rap nnp rcp, .slice (some ⟨gap, 0, none⟩) 7 7] 32)) (v2r.alloc (.cells #[.slice nar nnr ncr, .int .u64 xr0, .int .u64 xr1, .int .u64 xr2, .int .u64 xr3, .int .u64 xr4, .int .u64 xr5, .int .u64 xr6] 27))) := Lib.hid (hb2.alloc hb2.size _)
    have HK2r : Hid (∀ w', Below (v2r.alloc (.cells #[.slice nar nnr ncr, .int .u64 xr0, .int .u64 xr1, .int .u64 xr2, .int .u64 xr3, .int .u64 xr4, .int .u64 xr5, .int .u64 xr6] 27)).heap.size (v2r.alloc (.cells #[.slice nar nnr ncr, .int .u64 xr0, .int .u64 xr1, .int .u64 xr2, .int .u64 xr3, .int .u64 xr4, .int .u64 xr5, .int .u64 xr6] 27)) w' → Blk w' v2r.heap.size #[.slice nar nnr ncr, .int .u64 xr0, .int .u64 xr1, .int .u64 xr2, .int .u64 xr3, .int .u64 xr4, .int .u64 xr5, .int .u64 xr6] 27 ∧ Nus w' w'.heap.size nar nnr Sr.nd) := Lib.hid (fun w' h => ⟨(Blk.new _ _ _).later h, (((hnu.below ((Below.refl _ _).alloc (Nat.le_refl _) _)).more (by rw [World.size_alloc]; omega)).below h).more h.size⟩)
    have HNN := Lib.hid hnu.hl
    have HMDr := Lib.hid (fun w1 => model_parts nar nnr ncr xr0 xr1 xr2 xr3 xr4 xr5 xr6 w1 (hv ▸ hvb))
    clear ht hb2 hnu hvb
    go_wp2_with fail
    refine (HG2.out _ HB2.out).mono ?_
    rintro r v3r ⟨⟨rar, rn, rcr, gar, rfl, hnr, hng, hrn⟩, hb3⟩
    obtain rfl : nnr = rn := by have h5 := hnr.hl; have h6 := HNN.out; omega
    rw [hv] at hng
    have HAr : Hid (Below (v3p.alloc (.cells #[.slice rap nnp rcp, .slice (some ⟨gap, 0, none⟩) 7 7] 32)).heap.size (v3p.alloc (.cells #[.slice rap nnp rcp, .slice (some ⟨gap, 0, none⟩) 7 7] 32)) (v3r.alloc (.cells #[.slice rar nnr rcr, .slice (some ⟨gar, 0, none⟩) 7 7] 32))) := Lib.hid (by
      have h := HB2.out.trans (hb3.mono HB2.out.size)
      exact h.alloc h.size _)
    have HBXr : Hid (∀ w', Below (v3r.alloc (.cells #[.slice rar nnr rcr, .slice (some ⟨gar, 0, none⟩) 7 7] 32)).heap.size (v3r.alloc (.cells #[.slice rar nnr rcr, .slice (some ⟨gar, 0, none⟩) 7 7] 32)) w' → Blk w' v2r.heap.size #[.slice nar nnr ncr, .int .u64 xr0, .int .u64 xr1, .int .u64 xr2, .int .u64 xr3, .int .u64 xr4, .int .u64 xr5, .int .u64 xr6] 27 ∧ Blk w' v3r.heap.size #[.slice rar nnr rcr, .slice (some ⟨gar, 0, none⟩) 7 7] 32 ∧ Nus w' w'.heap.size nar nnr Sr.nd ∧ Nus w' w'.heap.size rar nnr Sr.nd ∧ Nus w' w'.heap.size (some ⟨gar, 0, none⟩) 7 [xr0, xr1, xr2, xr3, xr4, xr5, xr6]) := Lib.hid (fun w' h => by
      have h0 : Below v3r.heap.size v3r (v3r.alloc (.cells #[.slice rar nnr rcr, .slice (some ⟨gar, 0, none⟩) 7 7] 32)) := (Below.refl _ _).alloc (Nat.le_refl _) _
      have h1 := h0.trans (h.mono h0.size)
      have h2 := HK2r.out w' (hb3.trans (h1.mono hb3.size))
      exact ⟨h2.1, (Blk.new _ _ _).later h, h2.2, (hnr.below h1).more h1.size, (hng.below h1).more h1.size⟩)
    clear hb3 hnr hng hv HK2r HG1 HG2 HB2 HNN
    go_wp2
    refine wp_region_facts (by kernel_rfl) Stays Stays.refl Stays.trans 100 rfl [80, 81, 82, 83, 84, 85, 86, 87, 88, 89, 90, 91, 92, 93, 94, 95, 96, 97, 98, 99, 8] (factsOf [Is (.int .i64 Ep), Is (.int .i64 Ep), Is (.bool true), Is (.bool true), Is (.agg #[.slice nap nnp ncp, .int .u64 xp0, .int .u64 xp1, .int .u64 xp2, .int .u64 xp3, .int .u64 xp4, .int .u64 xp5, .int .u64 xp6]), Mdl nap nnp ncp [xp0, xp1, xp2, xp3, xp4, xp5, xp6], Is (.agg #[.slice rap nnp rcp, .slice (some ⟨gap, 0, none⟩) 7 7]), Is (.bool true), Is (.bool true), Is (.bool true), Is (.int .i64 Er), Is (.int .i64 Er), Is (.bool true), Is (.bool true), Is (.bool true), Is (.agg #[.slice nar nnr ncr, .int .u64 xr0, .int .u64 xr1, .int .u64 xr2, .int .u64 xr3, .int .u64 xr4, .int .u64 xr5, .int .u64 xr6]), Mdl nar nnr ncr [xr0, xr1, xr2, xr3, xr4, xr5, xr6], Is (.agg #[.slice rar nnr rcr, .slice (some ⟨gar, 0, none⟩) 7 7]), Is (.bool true), Is (.bool true), Is (.bool true)]) (by kernel_rfl) (factsOf_mono (mono_cons (Is.mono _) (mono_cons (Is.mono _) (mono_cons (Is.mono _) (mono_cons (Is.mono _) (mono_cons (Is.mono _) (mono_cons (Mdl.mono _ _ _ _) (mono_cons (Is.mono _) (mono_cons (Is.mono _) (mono_cons (Is.mono _) (mono_cons (Is.mono _) (mono_cons (Is.mono _) (mono_cons (Is.mono _) (mono_cons (Is.mono _) (mono_cons (Is.mono _) (mono_cons (Is.mono _) (mono_cons (Is.mono _) (mono_cons (Mdl.mono _ _ _ _) (mono_cons (Is.mono _) (mono_cons (Is.mono _) (mono_cons (Is.mono _) (mono_cons (Is.mono _) mono_nil)))))))))))))))))))))) ?steps80 ?fin80
    case fin80 =>
      intro v w2 hb2 hF
      have hlast : v 20 = .bool true := hF 20 (by decide)
      have HBF : Hid (Below w.heap.size w w2) := Lib.hid (by
        have h0 := HAp.out.trans (HAr.out.mono HAp.out.size)
        have h1 := HB4.out.trans (h0.mono HB4.out.size)
        exact h1.drew.trans (Below.mono hb2 h1.size))
      clear hb2 hF
      simp only [putAll, List.set_cons_succ, List.set_cons_zero, Nat.reduceAdd, hlast]
      go_wp2
      go_ret
      exact ⟨rfl, HBF.out⟩
    case steps80 =>
      refine ⟨?_, ?_, ?_, ?_, ?_, ?_, ?_, ?_, ?_, ?_, ?_, ?_, ?_, ?_, ?_, ?_, ?_, ?_, ?_, ?_, ?_, trivial⟩
      all_goals intro y w2 hb hy0 hp0
      all_goals have hy := Lib.hid hy0
      all_goals have hp := Lib.hid hp0
      all_goals have hst := Lib.hid hb
      all_goals clear hy0 hp0 hb
      · have e1 : y 15 = .int .i64 Ep := hy.out 15 (by decide)
        refine StepG.plain rfl fun K Q hK => ?_
        simp only [fr100] at hK ⊢
        rw [e1] at hK ⊢
        go_simp
        exact hK _ _ ⟨Stays.refl _, by first | rfl | simp [Is] | (simp [factsOf, Is]; done)⟩
      · have e1 : y 17 = .int .i64 Ep := hy.out 17 (by decide)
        refine StepG.plain rfl fun K Q hK => ?_
        simp only [fr100] at hK ⊢
        rw [e1] at hK ⊢
        go_simp
        exact hK _ _ ⟨Stays.refl _, by first | rfl | simp [Is] | (simp [factsOf, Is]; done)⟩
      · have e1 : y 80 = .int .i64 Ep := hp.out 0 (by decide)
        have e2 : y 81 = .int .i64 Ep := hp.out 1 (by decide)
        refine StepG.plain rfl fun K Q hK => ?_
        simp only [fr100] at hK ⊢
        rw [e1, e2] at hK ⊢
        go_simp
        exact hK _ _ ⟨Stays.refl _, by first | rfl | simp [Is] | (simp [factsOf, Is]; done)⟩
      · have e1 : y 82 = .bool true := hp.out 2 (by decide)
        refine StepG.plain rfl fun K Q hK => ?_
        simp only [fr100] at hK ⊢
        rw [e1] at hK ⊢
        go_simp
        exact hK _ _ ⟨Stays.refl _, by first | rfl | simp [Is] | (simp [factsOf, Is]; done)⟩
      · have e1 : y 14 = .pointer (some ⟨v2p.heap.size, 0, none⟩) := hy.out 14 (by decide)
        obtain ⟨q0, q1, q2, q3, q4, q5, q6, q7⟩ := c8 (HBXp.out _ (HAr.out.trans (((Below.refl _ _).drew.trans hst.out).mono HAr.out.size))).1
        refine StepG.yes (b := true) (t := 83) rfl rfl rfl (by decide) (hp.out 3 (by decide)) fun K Q hK => ?_
        simp only [fr100] at hK ⊢
        rw [e1] at hK ⊢
        go_simp
        exact hK _ _ ⟨Stays.refl _, by first | rfl | simp [Is] | (simp [factsOf, Is]; done)⟩
      · have e1 : y 84 = .agg #[.slice nap nnp ncp, .int .u64 xp0, .int .u64 xp1, .int .u64 xp2, .int .u64 xp3, .int .u64 xp4, .int .u64 xp5, .int .u64 xp6] := hp.out 4 (by decide)
        refine StepG.yes (b := true) (t := 83) rfl rfl rfl (by decide) (hp.out 3 (by decide)) fun K Q hK => ?_
        simp only [fr100] at hK ⊢
        rw [e1] at hK ⊢
        go_simp
        go_at_call 12
        refine (HMDp.out _).mono ?_
        rintro r w3 ⟨⟨u, rfl, hm⟩, hb3⟩
        exact hK _ w3 ⟨hb3, hm⟩
      · have e1 : y 16 = .pointer (some ⟨v3p.heap.size, 0, none⟩) := hy.out 16 (by decide)
        obtain ⟨q0, q1⟩ := b2 (HBXp.out _ (HAr.out.trans (((Below.refl _ _).drew.trans hst.out).mono HAr.out.size))).2.1
        refine StepG.yes (b := true) (t := 83) rfl rfl rfl (by decide) (hp.out 3 (by decide)) fun K Q hK => ?_
        simp only [fr100] at hK ⊢
        rw [e1] at hK ⊢
        go_simp
        exact hK _ _ ⟨Stays.refl _, by first | rfl | simp [Is] | (simp [factsOf, Is]; done)⟩
      · have e2 : y 86 = .agg #[.slice rap nnp rcp, .slice (some ⟨gap, 0, none⟩) 7 7] := hp.out 6 (by decide)
        obtain ⟨gm, e1, hnm⟩ : Mdl nap nnp ncp [xp0, xp1, xp2, xp3, xp4, xp5, xp6] (y 85) w2 := hp.out 5 (by decide)
        obtain ⟨-, -, n1, n2, n3⟩ := (HBXp.out _ (HAr.out.trans (((Below.refl _ _).drew.trans hst.out).mono HAr.out.size)))
        refine StepG.yes (b := true) (t := 83) rfl rfl rfl (by decide) (hp.out 3 (by decide)) fun K Q hK => ?_
        simp only [fr100] at hK ⊢
        rw [e1, e2] at hK ⊢
        go_simp
        go_at_call 15
        refine (same_yes _ _ _ _ _ _ _ _ _ _ _ _ _ n1 n2 hnm n3 (Nat.le_refl _) hnnp).mono ?_
        rintro r w3 ⟨rfl, hb3⟩
        exact hK _ w3 ⟨hb3, rfl⟩
      · have e1 : y 83 = .bool true := hp.out 3 (by decide)
        have e2 : y 87 = .bool true := hp.out 7 (by decide)
        refine StepG.plain rfl fun K Q hK => ?_
        simp only [fr100] at hK ⊢
        rw [e1, e2] at hK ⊢
        go_simp
        exact hK _ _ ⟨Stays.refl _, by first | rfl | simp [Is] | (simp [factsOf, Is]; done)⟩
      · have e1 : y 88 = .bool true := hp.out 8 (by decide)
        refine StepG.plain rfl fun K Q hK => ?_
        simp only [fr100] at hK ⊢
        rw [e1] at hK ⊢
        go_simp
        exact hK _ _ ⟨Stays.refl _, by first | rfl | simp [Is] | (simp [factsOf, Is]; done)⟩
      · have e1 : y 20 = .int .i64 Er := hy.out 20 (by decide)
        refine StepG.yes (b := true) (t := 89) rfl rfl rfl (by decide) (hp.out 9 (by decide)) fun K Q hK => ?_
        simp only [fr100] at hK ⊢
        rw [e1] at hK ⊢
        go_simp
        exact hK _ _ ⟨Stays.refl _, by first | rfl | simp [Is] | (simp [factsOf, Is]; done)⟩
      · have e1 : y 22 = .int .i64 Er := hy.out 22 (by decide)
        refine StepG.yes (b := true) (t := 89) rfl rfl rfl (by decide) (hp.out 9 (by decide)) fun K Q hK => ?_
        simp only [fr100] at hK ⊢
        rw [e1] at hK ⊢
        go_simp
        exact hK _ _ ⟨Stays.refl _, by first | rfl | simp [Is] | (simp [factsOf, Is]; done)⟩
      · have e1 : y 90 = .int .i64 Er := hp.out 10 (by decide)
        have e2 : y 91 = .int .i64 Er := hp.out 11 (by decide)
        refine StepG.yes (b := true) (t := 89) rfl rfl rfl (by decide) (hp.out 9 (by decide)) fun K Q hK => ?_
        simp only [fr100] at hK ⊢
        rw [e1, e2] at hK ⊢
        go_simp
        exact hK _ _ ⟨Stays.refl _, by first | rfl | simp [Is] | (simp [factsOf, Is]; done)⟩
      · have e1 : y 89 = .bool true := hp.out 9 (by decide)
        have e2 : y 92 = .bool true := hp.out 12 (by decide)
        refine StepG.plain rfl fun K Q hK => ?_
        simp only [fr100] at hK ⊢
        rw [e1, e2] at hK ⊢
        go_simp
        exact hK _ _ ⟨Stays.refl _, by first | rfl | simp [Is] | (simp [factsOf, Is]; done)⟩
      · have e1 : y 93 = .bool true := hp.out 13 (by decide)
        refine StepG.plain rfl fun K Q hK => ?_
        simp only [fr100] at hK ⊢
        rw [e1] at hK ⊢
        go_simp
        exact hK _ _ ⟨Stays.refl _, by first | rfl | simp [Is] | (simp [factsOf, Is]; done)⟩
      · have e1 : y 19 = .pointer (some ⟨v2r.heap.size, 0, none⟩) := hy.out 19 (by decide)
        obtain ⟨q0, q1, q2, q3, q4, q5, q6, q7⟩ := c8 (HBXr.out _ ((Below.refl _ _).drew.trans hst.out)).1
        refine StepG.yes (b := true) (t := 94) rfl rfl rfl (by decide) (hp.out 14 (by decide)) fun K Q hK => ?_
        simp only [fr100] at hK ⊢
        rw [e1] at hK ⊢
        go_simp
        exact hK _ _ ⟨Stays.refl _, by first | rfl | simp [Is] | (simp [factsOf, Is]; done)⟩
      · have e1 : y 95 = .agg #[.slice nar nnr ncr, .int .u64 xr0, .int .u64 xr1, .int .u64 xr2, .int .u64 xr3, .int .u64 xr4, .int .u64 xr5, .int .u64 xr6] := hp.out 15 (by decide)
        refine StepG.yes (b := true) (t := 94) rfl rfl rfl (by decide) (hp.out 14 (by decide)) fun K Q hK => ?_
        simp only [fr100] at hK ⊢
        rw [e1] at hK ⊢
        go_simp
        go_at_call 12
        refine (HMDr.out _).mono ?_
        rintro r w3 ⟨⟨u, rfl, hm⟩, hb3⟩
        exact hK _ w3 ⟨hb3, hm⟩
      · have e1 : y 21 = .pointer (some ⟨v3r.heap.size, 0, none⟩) := hy.out 21 (by decide)
        obtain ⟨q0, q1⟩ := b2 (HBXr.out _ ((Below.refl _ _).drew.trans hst.out)).2.1
        refine StepG.yes (b := true) (t := 94) rfl rfl rfl (by decide) (hp.out 14 (by decide)) fun K Q hK => ?_
        simp only [fr100] at hK ⊢
        rw [e1] at hK ⊢
        go_simp
        exact hK _ _ ⟨Stays.refl _, by first | rfl | simp [Is] | (simp [factsOf, Is]; done)⟩
      · have e2 : y 97 = .agg #[.slice rar nnr rcr, .slice (some ⟨gar, 0, none⟩) 7 7] := hp.out 17 (by decide)
        obtain ⟨gm, e1, hnm⟩ : Mdl nar nnr ncr [xr0, xr1, xr2, xr3, xr4, xr5, xr6] (y 96) w2 := hp.out 16 (by decide)
        obtain ⟨-, -, n1, n2, n3⟩ := (HBXr.out _ ((Below.refl _ _).drew.trans hst.out))
        refine StepG.yes (b := true) (t := 94) rfl rfl rfl (by decide) (hp.out 14 (by decide)) fun K Q hK => ?_
        simp only [fr100] at hK ⊢
        rw [e1, e2] at hK ⊢
        go_simp
        go_at_call 15
        refine (same_yes _ _ _ _ _ _ _ _ _ _ _ _ _ n1 n2 hnm n3 (Nat.le_refl _) hnnr).mono ?_
        rintro r w3 ⟨rfl, hb3⟩
        exact hK _ w3 ⟨hb3, rfl⟩
      · have e1 : y 94 = .bool true := hp.out 14 (by decide)
        have e2 : y 98 = .bool true := hp.out 18 (by decide)
        refine StepG.plain rfl fun K Q hK => ?_
        simp only [fr100] at hK ⊢
        rw [e1, e2] at hK ⊢
        go_simp
        exact hK _ _ ⟨Stays.refl _, by first | rfl | simp [Is] | (simp [factsOf, Is]; done)⟩
      · have e1 : y 99 = .bool true := hp.out 19 (by decide)
        refine StepG.plain rfl fun K Q hK => ?_
        simp only [fr100] at hK ⊢
        rw [e1] at hK ⊢
        go_simp
        exact hK _ _ ⟨Stays.refl _, by first | rfl | simp [Is] | (simp [factsOf, Is]; done)⟩

set_option maxRecDepth 100000 in
theorem lifted (os : Os) (started : os.Started) (H : Type) (enc : TypeId × Value → H) :
    ReturnsInHanded {} Try.checked os 8 .any (Rows.dynamicTwiceSpec.pre6 enc Try.prog Try.f8 Rows.dynamicTwiceRow.domain false) (Rows.dynamicTwiceSpec.post enc Try.prog Try.f8 false true false false) := by
  refine returnsInHanded_of_change (C := Try.checked) own started (by kernel_rfl) Try.func8
    (ChangeSpec.witness6 (enc := enc) (C := Try.checked) false ⟨#[], #[.slice none 0 0, .agg #[.int .u64 0, .int .u64 0, .int .u64 0, .int .u64 0, .int .u64 0, .int .u64 0, .int .u64 0], .int .i64 0, .int .i64 0], []⟩ 8 (by kernel_rfl) (by kernel_rfl) (by kernel_rfl) (by kernel_rfl)) ?_
  intro W base args ds gs before hval0 hW hcnd _
  have hval : ∀ (j : Nat) t v, Try.f8.params[j]? = some t → args[j]? = some v → Value.okWide Try.prog W .any base t v := hval0
  have hW' := hW
  obtain ⟨p, q, hA0, hV, rfl, hfz, hnd⟩ := hW
  have hA : DataW.TrodAll enc Try.prog W 0 (fun _ => true) true Try.f8.params.toList args.toList ds p := hA0
  rw [Try.params8] at hA hval
  obtain ⟨v0, vs0, d0, ds0, p0, q0, hargs, rfl, rfl, h0, r0⟩ := trodAll_cons hA
  obtain ⟨v1, vs1, d1, ds1, p1, q1, rfl, rfl, rfl, h1, r1⟩ := trodAll_cons r0
  obtain ⟨v2, vs2, d2, ds2, p2, q2, rfl, rfl, rfl, h2, r2⟩ := trodAll_cons r1
  obtain ⟨v3, vs3, d3, ds3, p3, q3, rfl, rfl, rfl, h3, r3⟩ := trodAll_cons r2
  obtain ⟨rfl, rfl, rfl⟩ := trodAll_nil r3
  obtain rfl : args = #[v0, v1, v2, v3] := by cases args; simp_all
  obtain ⟨rfl, rfl⟩ := trodVars_none hV
  obtain ⟨a0, len0, cap0, rfl⟩ := okWide_slice Try.underlying22 (hval 0 22 v0 rfl rfl)
  have k0 := h0
  have lt0 : ∀ x ∈ p0, x.block < W.heap.size := by obtain ⟨m, hm⟩ := k0; exact DataW.trod_lt m _ _ _ hm
  obtain ⟨z0, w0⟩ : ∃ zs, IsRow .u64 W a0 len0 cap0 zs := by
    obtain ⟨fuel, hf⟩ := h0
    rcases open_ints Try.underlying22 Try.underlying23 (by kernel_rfl) hf with ⟨hcs, _⟩ | ⟨x, l, c, zs, hcs, _, hl, hm, hz, _, hcell, hwz⟩
    · simp [Value.cells] at hcs
      obtain ⟨rfl, rfl, rfl⟩ := hcs
      exact ⟨[], .inl ⟨rfl, rfl, rfl, rfl⟩⟩
    · simp [Value.cells] at hcs
      obtain ⟨rfl, rfl, rfl⟩ := hcs
      exact ⟨zs, .inr ⟨_, rfl, hl, hm, by simpa using hz, hcell, hwz⟩⟩
  obtain ⟨cs1, rfl, hz1, _⟩ : ∃ cs, v1 = .agg cs ∧ cs.size = Try.prog.cellsOf 24 ∧ Row.okWide Try.prog W .any base 24 cs := by
    have := hval 1 24 v1 rfl rfl
    simpa [Value.okWide, Try.underlying24] using this
  rw [show Try.prog.cellsOf 24 = 7 from by kernel_rfl] at hz1
  have k1 := h1
  have lt1 : ∀ x ∈ p1, x.block < W.heap.size := by obtain ⟨m, hm⟩ := k1; exact DataW.trod_lt m _ _ _ hm
  obtain ⟨z1, w1, rfl⟩ : ∃ zs, IsArr .u64 7 zs ∧ cs1 = (zs.map (Value.int .u64)).toArray := by
    obtain ⟨fuel, hf⟩ := h1
    exact open_arr Try.underlying24 Try.underlying23 (by kernel_rfl) hz1 hf
  obtain ⟨a2, rfl, rfl, rfl, w2⟩ := open_int Try.underlying3 (hval 2 3 v2 rfl rfl) h2
  obtain ⟨a3, rfl, rfl, rfl, w3⟩ := open_int Try.underlying3 (hval 3 3 v3 rfl rfl) h3
  clear hA0 hval0
  refine (walk a0 len0 cap0 z0 z1 a2 a3 W w0 w1 w2 w3).mono fun e W' ⟨he, bel⟩ => ?_
  subst he
  exact ⟨_, rfl, _, _, _, [], _, [], hW', trodAll_mk1 (shut_bool Try.underlying4 _), (trodAll_cons_mk (Below.trod laidOut (by kernel_rfl) (of_decide_eq_true (by kernel_rfl)) k0 bel lt0) (trodAll_cons_mk (Below.trod laidOut (by kernel_rfl) (of_decide_eq_true (by kernel_rfl)) k1 bel lt1) (trodAll_cons_mk (shut_int Try.underlying3 w2) (trodAll_cons_mk (shut_int Try.underlying3 w3) trodAll_mk0)))), rfl, bel.frame _, fun h => by cases h⟩

theorem over : Rows.dynamicTwiceRow.holds Try.pinned (OpenSpec.ofChange Rows.dynamicTwiceSpec) :=
  OpenClaim.holds_of_wide 8 Try.f8 rfl rfl rfl rfl rfl rfl rfl ⟨rfl, rfl, rfl, rfl, rfl⟩ rfl rfl rfl rfl rfl (by kernel_rfl) Try.func8 (by kernel_rfl)
    (of_decide_eq_true (by kernel_rfl)) (by unfold Func.isWrapper; first | (rw [if_pos (by decide +kernel)]; kernel_rfl) | (rw [if_neg (by decide +kernel)]; exact ⟨rfl, rfl⟩))
    (fun os started H enc _ => lifted os started H enc)

theorem proved : Rows.DynamicTwiceSaid := over
#print axioms proved
end Go.Proofs.Ytngjnbfjlchfgaa.dynamicTwice
