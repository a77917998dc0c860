/-
  What is proved here: DynamicEntries: any entries, one behind the other, tell what the reference says, or are refused with the same error.
  Conditions: none of our own; the law's row says what its input is.
-/
import Derived.Test.YtngjnbfjlchfgaaRows
import Derived.Test.YtngjnbfjlchfgaaDynEnd
import Derived.WalkKit
import Derived.ProofKit
import Derived.OpenShut
import Derived.ShutString
import Derived.ChangeOld
import Derived.Below
namespace Go.Proofs.Ytngjnbfjlchfgaa.dynamicEntries
open Go.ChangeShapes Go.WideShapes Go.ChangeAt Go.RowKit
open Go.ChangeMaps (open_string shut_string)
set_option linter.unusedVariables false

theorem own : ownKnob Try.prog.godebug = none := by kernel_rfl
theorem laidOut : laidOutB Try.prog = true := by kernel_rfl

theorem fr84 (y : Nat → Value) : frameOf 84 y = #[y 0, y 1, y 2, y 3, y 4, y 5, y 6, y 7, y 8, y 9, y 10, y 11, y 12, y 13, y 14, y 15, y 16, y 17, y 18, y 19, y 20, y 21, y 22, y 23, y 24, y 25, y 26, y 27, y 28, y 29, y 30, y 31, y 32, y 33, y 34, y 35, y 36, y 37, y 38, y 39, y 40, y 41, y 42, y 43, y 44, y 45, y 46, y 47, y 48, y 49, y 50, y 51, y 52, y 53, y 54, y 55, y 56, y 57, y 58, y 59, y 60, y 61, y 62, y 63, y 64, y 65, y 66, y 67, y 68, y 69, y 70, y 71, y 72, y 73, y 74, y 75, y 76, y 77, y 78, y 79, y 80, y 81, y 82, y 83] := rfl
/-- The entries of two lists, as far as k. -/
def prs (A B : List Int) (k : Nat) : List (Int × Int) := (List.range k).map fun j => (A.getD j 0, B.getD j 0)
theorem prs_succ (A B : List Int) (k : Nat) : prs A B (k + 1) = prs A B k ++ [(A.getD k 0, B.getD k 0)] := by simp [prs, List.range_succ]
theorem nus_cell {w : World} {B : Nat} {a : Option Addr} {len : Nat} {zs : List Int} (h : Nus w B a len zs) (h0 : 0 < len) : ∃ b off, a = some ⟨b, off, none⟩ ∧ ∀ w', Below B w w' → ∀ i, i < len → w'.cell? ⟨b, off + i, none⟩ = some (.int .u64 (zs.getD i 0)) := by
  obtain ⟨b, off, e, hB, hc⟩ := h.hc h0
  exact ⟨b, off, e, fun w' hb i hi => (hb.cell (p := ⟨b, off + i, none⟩) hB).trans (hc i hi)⟩
set_option maxRecDepth 100000 in
set_option maxHeartbeats 1600000 in
theorem walk (a0 : Option Addr) (len0 cap0 : Nat) (z0 : List Int) (a1 : Option Addr) (len1 cap1 : Nat) (z1 : List Int) (w : World) (w0 : IsRow .u64 w a0 len0 cap0 z0) (w1 : IsRow .u64 w a1 len1 cap1 z1) :
    Calls Try.prog 5 #[.slice a0 len0 cap0, .slice a1 len1 cap1] w fun e w' => e = .returned (.bool true) ∧ Below w.heap.size w w' := by
  obtain ⟨hs0, -, -⟩ := w0.nus
  obtain ⟨hs1, -, -⟩ := w1.nus
  obtain ⟨i0, hi, hz0, hz1, hz2⟩ := info_parts info_u8
  have HI := Lib.hid hi
  have HZ0 := Lib.hid hz0
  have HZ1 := Lib.hid hz1
  have HZ2 := Lib.hid hz2
  generalize z0.take len0 = TG at hs0
  generalize z1.take len1 = VL at hs1
  have HS0 := Lib.hid hs0
  have HS1 := Lib.hid hs1
  have HPS := Lib.hid (prs_succ TG VL)
  clear w0 w1 hs0 hs1 hi hz0 hz1 hz2
  go_enter Try.func5, Try.ntmps5
  go_wp2_with fail
  refine (awake_any _).mono ?_
  rintro r v1 ⟨rfl, hb1⟩
  have HB1 := Lib.hid hb1
  clear hb1
  go_wp2
  go_loopw [6, 7] (fun v i wr => ∃ k : Nat, k ≤ 30 ∧ i = .int .i64 k ∧ wr.ownsRow w.heap.size 5 1 v (16 * k) ((entsB (prs TG VL k)).map (Value.int .u8)) ∧ Below w.heap.size w wr) (fun _ i _ => 30 - (intOf i).toNat)
  case atStart => exact ⟨0, Nat.zero_le _, rfl, World.ownsRow_nil _ _ _ _, HB1.out⟩
  case round =>
    obtain ⟨k, hk, rfl, hown, hbel⟩ := hrel
    obtain ⟨wo, rfl⟩ : ∃ wo : World, wo = wr := ⟨_, rfl⟩
    by_cases hl0 : k < len0
    · have hl0i : (k : Int) < len0 := by omega
      by_cases hl1 : k < len1
      · have hl1i : (k : Int) < len1 := by omega
        by_cases hl3 : k < 30
        · have hl3i : (k : Int) < 30 := by omega
          obtain ⟨tb, tof, rfl, htc⟩ := nus_cell HS0.out (by omega)
          obtain ⟨vb, vof, rfl, hvc⟩ := nus_cell HS1.out (by omega)
          have HTC : Hid (∀ w', Below w.heap.size w w' → w'.cell? ⟨tb, tof + k, none⟩ = some (.int .u64 (TG.getD k 0))) := Lib.hid (fun w' h => htc w' h k hl0)
          have HVC : Hid (∀ w', Below w.heap.size w w' → w'.cell? ⟨vb, vof + k, none⟩ = some (.int .u64 (VL.getD k 0))) := Lib.hid (fun w' h => hvc w' h k hl1)
          have htbd := HS0.out.at hl0
          have hvbd := HS1.out.at hl1
          have HPK := Lib.hid (HPS.out k)
          generalize TG.getD k 0 = t at HTC htbd HPK
          generalize VL.getD k 0 = x at HVC hvbd HPK
          have HOW := Lib.hid hown
          have HBE := Lib.hid hbel
          clear htc hvc hown hbel
          go_wp2
          go_loopw [6, 8] (fun v q wx => ∃ j : Nat, j ≤ 8 ∧ q = .int .i64 j ∧ wx.ownsRow w.heap.size 5 1 v (16 * k + j) ((entsB (prs TG VL k) ++ digs t j).map (Value.int .u8)) ∧ Below w.heap.size w wx) (fun _ q _ => 8 - (intOf q).toNat)
          case atStart => exact ⟨0, Nat.zero_le _, rfl, by simpa [digs] using HOW.out, HBE.out⟩
          case round =>
            obtain ⟨j, hj, rfl, hown, hbel⟩ := hrel
            by_cases hlt : j < 8
            · have hji : (j : Int) < 8 := by omega
              have hce := HTC.out _ hbel
              have HSB := Lib.hid (shr_byte t j)
              have hdg : Hid (digs t (j + 1) = digs t j ++ [t / 256 ^ j % 256]) := Lib.hid rfl
              have hsz := hbel.size
              have HOWN := Lib.hid hown
              have HBE := Lib.hid hbel
              clear hown hbel
              go_wp2_with (at_builtin; refine wpList_append_own _ rfl _ _ 28 rfl w.heap.size 5 i0 (.int .u8 0) 1 1 Try.underlying28 HI.out HZ0.out HZ1.out HZ2.out rfl (by decide) _ (16 * k + j) _ rfl (HOWN.out.alloc _) ⟨wr.heap.size, 0, none⟩ 1 1 [.int .u8 (t / 2 ^ (8 * j) % 256)] rfl rfl ?c1 ?c2 ?c3 ?c4 ?c5 ?_)
              case c1 => exact cell_one_new _ _ _
              case c2 => intro u hu; obtain rfl := List.mem_singleton.1 hu; rfl
              case c3 => unfold maxLen; omega
              case c4 => omega
              case c5 => simp; omega
              intro v2 w2 hown2 hg2 hnil2
              have hb2 : Below w.heap.size w w2 := (HBE.out.alloc (by omega) _).grown hg2 (by simp; omega) (fun q e => (HOWN.out.lt q e).1)
              have HO2 : Hid (w2.ownsRow w.heap.size 5 1 v2 (16 * k + (j + 1)) ((entsB (prs TG VL k) ++ digs t (j + 1)).map (Value.int .u8))) := Lib.hid (by
                rw [hdg.out, ← HSB.out]; simpa only [List.map_append, List.append_assoc, List.map_cons, List.map_nil, Nat.add_assoc] using hown2)
              clear hown2 hg2 hnil2
              go_wp2
              go_roundw
              case rel => exact ⟨j + 1, by omega, by go_num, HO2.out, hb2⟩
              case measure => (simp [intOf] <;> omega)
            · obtain rfl : j = 8 := by omega
              rw [show ((8 : Nat) : Int) = 8 from rfl]
              have HO7 : Hid (wr.ownsRow w.heap.size 5 1 _ (16 * k + 8) ((entsB (prs TG VL k) ++ digs t 8).map (Value.int .u8))) := Lib.hid hown
              have HB7 := Lib.hid hbel
              clear hown hbel
              obtain ⟨wi, rfl⟩ : ∃ wi : World, wi = wr := ⟨_, rfl⟩
              go_wp2
              go_loopw [6, 9] (fun v q wx => ∃ j : Nat, j ≤ 8 ∧ q = .int .i64 j ∧ wx.ownsRow w.heap.size 5 1 v (16 * k + 8 + j) ((entsB (prs TG VL k) ++ digs t 8 ++ digs x j).map (Value.int .u8)) ∧ Below w.heap.size w wx) (fun _ q _ => 8 - (intOf q).toNat)
              case atStart => exact ⟨0, Nat.zero_le _, rfl, by simpa [digs] using HO7.out, HB7.out⟩
              case round =>
                obtain ⟨j, hj, rfl, hown, hbel⟩ := hrel
                by_cases hlt : j < 8
                · have hji : (j : Int) < 8 := by omega
                  have hce := HVC.out _ hbel
                  have HSB := Lib.hid (shr_byte x j)
                  have hdg : Hid (digs x (j + 1) = digs x j ++ [x / 256 ^ j % 256]) := Lib.hid rfl
                  have hsz := hbel.size
                  have HOWN := Lib.hid hown
                  have HBE := Lib.hid hbel
                  clear hown hbel
                  go_wp2_with (at_builtin; refine wpList_append_own _ rfl _ _ 28 rfl w.heap.size 5 i0 (.int .u8 0) 1 1 Try.underlying28 HI.out HZ0.out HZ1.out HZ2.out rfl (by decide) _ (16 * k + 8 + j) _ rfl (HOWN.out.alloc _) ⟨wr.heap.size, 0, none⟩ 1 1 [.int .u8 (x / 2 ^ (8 * j) % 256)] rfl rfl ?d1 ?d2 ?d3 ?d4 ?d5 ?_)
                  case d1 => exact cell_one_new _ _ _
                  case d2 => intro u hu; obtain rfl := List.mem_singleton.1 hu; rfl
                  case d3 => unfold maxLen; omega
                  case d4 => omega
                  case d5 => simp; omega
                  intro v2 w2 hown2 hg2 hnil2
                  have hb2 : Below w.heap.size w w2 := (HBE.out.alloc (by omega) _).grown hg2 (by simp; omega) (fun q e => (HOWN.out.lt q e).1)
                  have HO2 : Hid (w2.ownsRow w.heap.size 5 1 v2 (16 * k + 8 + (j + 1)) ((entsB (prs TG VL k) ++ digs t 8 ++ digs x (j + 1)).map (Value.int .u8))) := Lib.hid (by
                    rw [hdg.out, ← HSB.out]; simpa only [List.map_append, List.append_assoc, List.map_cons, List.map_nil, Nat.add_assoc] using hown2)
                  clear hown2 hg2 hnil2
                  go_wp2
                  go_roundw
                  case rel => exact ⟨j + 1, by omega, by go_num, HO2.out, hb2⟩
                  case measure => (simp [intOf] <;> omega)
                · obtain rfl : j = 8 := by omega
                  rw [show ((8 : Nat) : Int) = 8 from rfl]
                  have HO8 : Hid (wr.ownsRow w.heap.size 5 1 _ (16 * (k + 1)) ((entsB (prs TG VL (k + 1))).map (Value.int .u8))) := Lib.hid (by
                    rw [HPK.out, entsB_snoc]
                    simpa only [entB, List.append_assoc, Nat.mul_add, Nat.mul_one, Nat.add_assoc] using hown)
                  have HB8 := Lib.hid hbel
                  clear hown hbel
                  go_wp2
                  go_roundw
                  case rel => exact ⟨k + 1, by omega, by go_num, HO8.out, HB8.out⟩
                  case measure => (simp [intOf] <;> omega)
        · have hl3i : ¬ (k : Int) < 30 := by omega
          have HRZ : Hid (∀ n ∈ entsB (prs TG VL k), 0 ≤ n ∧ n ≤ 255) := Lib.hid (entsB_bd _)
          generalize entsB (prs TG VL k) = zs at hown HRZ
          obtain ⟨ba, cp, rfl, hcap, hcm⟩ := own_slice_cap hown
          have hby := Bys.own HRZ.out hown
          have HS : Hid (∀ w1, Below wo.heap.size wo w1 → Bys w1 wo.heap.size ba (16 * k) zs) := Lib.hid (fun w1 h1 => hby.below h1)
          have HB2 := Lib.hid hbel
          have HBW := HB2
          clear hown hbel hby
          obtain ⟨E, S, hES⟩ : ∃ E S, getDy zs = (E, S) := ⟨_, _, rfl⟩
          have HG1 := Lib.hid (get5_any _ _ _ _ _ _ (HS.out _ (Below.refl _ _)) (Nat.le_refl _) (by omega) hcap hcm)
          have HG2 := Lib.hid (fun w1 h1 => rget5_any _ _ _ cp _ w1 (HS.out w1 h1) (Below.size h1) (by omega))
          rw [hES] at HG1 HG2
          clear hES
          go_wp2_with fail
          refine HG1.out.mono ?_
          rintro r v2 ⟨ht, hb2⟩
          obtain ⟨na, nn, nc, x0, x1, x2, x3, x4, x5, x6, hv, rfl, hnu, hnn, hvb⟩ := ht.parts
          have HB2 : Hid (Below wo.heap.size wo (v2.alloc (.cells #[.slice na nn nc, .int .u64 x0, .int .u64 x1, .int .u64 x2, .int .u64 x3, .int .u64 x4, .int .u64 x5, .int .u64 x6] 27))) := Lib.hid (hb2.alloc hb2.size _)
          have HK2 : Hid (∀ w', Below (v2.alloc (.cells #[.slice na nn nc, .int .u64 x0, .int .u64 x1, .int .u64 x2, .int .u64 x3, .int .u64 x4, .int .u64 x5, .int .u64 x6] 27)).heap.size (v2.alloc (.cells #[.slice na nn nc, .int .u64 x0, .int .u64 x1, .int .u64 x2, .int .u64 x3, .int .u64 x4, .int .u64 x5, .int .u64 x6] 27)) w' → Blk w' v2.heap.size #[.slice na nn nc, .int .u64 x0, .int .u64 x1, .int .u64 x2, .int .u64 x3, .int .u64 x4, .int .u64 x5, .int .u64 x6] 27 ∧ Nus w' w'.heap.size na nn S.nd) := Lib.hid (fun w' h => ⟨(Blk.new _ _ _).later h, (((hnu.below ((Below.refl _ _).alloc (Nat.le_refl _) _)).more (by rw [World.size_alloc]; omega)).below h).more h.size⟩)
          have HNN := Lib.hid hnu.hl
          have HMD := Lib.hid (fun w1 => model_parts na nn nc x0 x1 x2 x3 x4 x5 x6 w1 (hv ▸ hvb))
          clear ht hb2 hnu hvb
          go_wp2_with fail
          refine (HG2.out _ HB2.out).mono ?_
          rintro r v3 ⟨⟨ra, rn, rc, ga, rfl, hnr, hng, hrn⟩, hb3⟩
          obtain rfl : nn = rn := by have h5 := hnr.hl; have h6 := HNN.out; omega
          rw [hv] at hng
          have HA : Hid (Below wo.heap.size wo (v3.alloc (.cells #[.slice ra nn rc, .slice (some ⟨ga, 0, none⟩) 7 7] 32))) := Lib.hid (by
            have h := HB2.out.trans (hb3.mono HB2.out.size)
            exact h.alloc h.size _)
          have HBX : Hid (∀ w', Below (v3.alloc (.cells #[.slice ra nn rc, .slice (some ⟨ga, 0, none⟩) 7 7] 32)).heap.size (v3.alloc (.cells #[.slice ra nn rc, .slice (some ⟨ga, 0, none⟩) 7 7] 32)) w' → Blk w' v2.heap.size #[.slice na nn nc, .int .u64 x0, .int .u64 x1, .int .u64 x2, .int .u64 x3, .int .u64 x4, .int .u64 x5, .int .u64 x6] 27 ∧ Blk w' v3.heap.size #[.slice ra nn rc, .slice (some ⟨ga, 0, none⟩) 7 7] 32 ∧ Nus w' w'.heap.size na nn S.nd ∧ Nus w' w'.heap.size ra nn S.nd ∧ Nus w' w'.heap.size (some ⟨ga, 0, none⟩) 7 [x0, x1, x2, x3, x4, x5, x6]) := Lib.hid (fun w' h => by
            have h0 : Below v3.heap.size v3 (v3.alloc (.cells #[.slice ra nn rc, .slice (some ⟨ga, 0, none⟩) 7 7] 32)) := (Below.refl _ _).alloc (Nat.le_refl _) _
            have h1 := h0.trans (h.mono h0.size)
            have h2 := HK2.out w' (hb3.trans (h1.mono hb3.size))
            exact ⟨h2.1, (Blk.new _ _ _).later h, h2.2, (hnr.below h1).more h1.size, (hng.below h1).more h1.size⟩)
          clear hb3 hnr hng hv HK2 HG1 HG2 HB2 HNN
          go_wp2
          refine wp_region_facts (by kernel_rfl) Stays Stays.refl Stays.trans 84 rfl [75, 76, 77, 78, 79, 80, 81, 82, 83, 4] (factsOf [Is (.int .i64 E), Is (.int .i64 E), Is (.bool true), Is (.bool true), Is (.agg #[.slice na nn nc, .int .u64 x0, .int .u64 x1, .int .u64 x2, .int .u64 x3, .int .u64 x4, .int .u64 x5, .int .u64 x6]), Mdl na nn nc [x0, x1, x2, x3, x4, x5, x6], Is (.agg #[.slice ra nn rc, .slice (some ⟨ga, 0, none⟩) 7 7]), Is (.bool true), Is (.bool true), Is (.bool true)]) (by kernel_rfl) (factsOf_mono (mono_cons (Is.mono _) (mono_cons (Is.mono _) (mono_cons (Is.mono _) (mono_cons (Is.mono _) (mono_cons (Is.mono _) (mono_cons (Mdl.mono _ _ _ _) (mono_cons (Is.mono _) (mono_cons (Is.mono _) (mono_cons (Is.mono _) (mono_cons (Is.mono _) mono_nil))))))))))) ?steps75 ?fin75
          case fin75 =>
            intro v w2 hb2 hF
            have hlast : v 9 = .bool true := hF 9 (by decide)
            have HBF : Hid (Below w.heap.size w w2) := Lib.hid (by
              have h1 := HBW.out.trans (HA.out.mono HBW.out.size)
              exact h1.drew.trans (Below.mono hb2 h1.size))
            clear hb2 hF
            simp only [putAll, List.set_cons_succ, List.set_cons_zero, Nat.reduceAdd, hlast]
            go_wp2
            go_ret
            exact ⟨rfl, HBF.out⟩
          case steps75 =>
            refine ⟨?_, ?_, ?_, ?_, ?_, ?_, ?_, ?_, ?_, ?_, trivial⟩
            all_goals intro y w2 hb hy0 hp0
            all_goals have hy := Lib.hid hy0
            all_goals have hp := Lib.hid hp0
            all_goals have hst := Lib.hid hb
            all_goals clear hy0 hp0 hb
            · have e1 : y 11 = .int .i64 E := hy.out 11 (by decide)
              refine StepG.plain rfl fun K Q hK => ?_
              simp only [fr84] at hK ⊢
              rw [e1] at hK ⊢
              go_simp
              exact hK _ _ ⟨Stays.refl _, by first | rfl | simp [Is] | (simp [factsOf, Is]; done)⟩
            · have e1 : y 13 = .int .i64 E := hy.out 13 (by decide)
              refine StepG.plain rfl fun K Q hK => ?_
              simp only [fr84] at hK ⊢
              rw [e1] at hK ⊢
              go_simp
              exact hK _ _ ⟨Stays.refl _, by first | rfl | simp [Is] | (simp [factsOf, Is]; done)⟩
            · have e1 : y 75 = .int .i64 E := hp.out 0 (by decide)
              have e2 : y 76 = .int .i64 E := hp.out 1 (by decide)
              refine StepG.plain rfl fun K Q hK => ?_
              simp only [fr84] at hK ⊢
              rw [e1, e2] at hK ⊢
              go_simp
              exact hK _ _ ⟨Stays.refl _, by first | rfl | simp [Is] | (simp [factsOf, Is]; done)⟩
            · have e1 : y 77 = .bool true := hp.out 2 (by decide)
              refine StepG.plain rfl fun K Q hK => ?_
              simp only [fr84] at hK ⊢
              rw [e1] at hK ⊢
              go_simp
              exact hK _ _ ⟨Stays.refl _, by first | rfl | simp [Is] | (simp [factsOf, Is]; done)⟩
            · have e1 : y 10 = .pointer (some ⟨v2.heap.size, 0, none⟩) := hy.out 10 (by decide)
              obtain ⟨q0, q1, q2, q3, q4, q5, q6, q7⟩ := c8 (HBX.out _ ((Below.refl _ _).drew.trans hst.out)).1
              refine StepG.yes (b := true) (t := 78) rfl rfl rfl (by decide) (hp.out 3 (by decide)) fun K Q hK => ?_
              simp only [fr84] at hK ⊢
              rw [e1] at hK ⊢
              go_simp
              exact hK _ _ ⟨Stays.refl _, by first | rfl | simp [Is] | (simp [factsOf, Is]; done)⟩
            · have e1 : y 79 = .agg #[.slice na nn nc, .int .u64 x0, .int .u64 x1, .int .u64 x2, .int .u64 x3, .int .u64 x4, .int .u64 x5, .int .u64 x6] := hp.out 4 (by decide)
              refine StepG.yes (b := true) (t := 78) rfl rfl rfl (by decide) (hp.out 3 (by decide)) fun K Q hK => ?_
              simp only [fr84] at hK ⊢
              rw [e1] at hK ⊢
              go_simp
              go_at_call 12
              refine (HMD.out _).mono ?_
              rintro r w3 ⟨⟨u, rfl, hm⟩, hb3⟩
              exact hK _ w3 ⟨hb3, hm⟩
            · have e1 : y 12 = .pointer (some ⟨v3.heap.size, 0, none⟩) := hy.out 12 (by decide)
              obtain ⟨q0, q1⟩ := b2 (HBX.out _ ((Below.refl _ _).drew.trans hst.out)).2.1
              refine StepG.yes (b := true) (t := 78) rfl rfl rfl (by decide) (hp.out 3 (by decide)) fun K Q hK => ?_
              simp only [fr84] at hK ⊢
              rw [e1] at hK ⊢
              go_simp
              exact hK _ _ ⟨Stays.refl _, by first | rfl | simp [Is] | (simp [factsOf, Is]; done)⟩
            · have e2 : y 81 = .agg #[.slice ra nn rc, .slice (some ⟨ga, 0, none⟩) 7 7] := hp.out 6 (by decide)
              obtain ⟨gm, e1, hnm⟩ : Mdl na nn nc [x0, x1, x2, x3, x4, x5, x6] (y 80) w2 := hp.out 5 (by decide)
              obtain ⟨-, -, n1, n2, n3⟩ := (HBX.out _ ((Below.refl _ _).drew.trans hst.out))
              refine StepG.yes (b := true) (t := 78) rfl rfl rfl (by decide) (hp.out 3 (by decide)) fun K Q hK => ?_
              simp only [fr84] at hK ⊢
              rw [e1, e2] at hK ⊢
              go_simp
              go_at_call 15
              refine (same_yes _ _ _ _ _ _ _ _ _ _ _ _ _ n1 n2 hnm n3 (Nat.le_refl _) hnn).mono ?_
              rintro r w3 ⟨rfl, hb3⟩
              exact hK _ w3 ⟨hb3, rfl⟩
            · have e1 : y 78 = .bool true := hp.out 3 (by decide)
              have e2 : y 82 = .bool true := hp.out 7 (by decide)
              refine StepG.plain rfl fun K Q hK => ?_
              simp only [fr84] at hK ⊢
              rw [e1, e2] at hK ⊢
              go_simp
              exact hK _ _ ⟨Stays.refl _, by first | rfl | simp [Is] | (simp [factsOf, Is]; done)⟩
            · have e1 : y 83 = .bool true := hp.out 8 (by decide)
              refine StepG.plain rfl fun K Q hK => ?_
              simp only [fr84] at hK ⊢
              rw [e1] at hK ⊢
              go_simp
              exact hK _ _ ⟨Stays.refl _, by first | rfl | simp [Is] | (simp [factsOf, Is]; done)⟩
      · have hl1i : ¬ (k : Int) < len1 := by omega
        have HRZ : Hid (∀ n ∈ entsB (prs TG VL k), 0 ≤ n ∧ n ≤ 255) := Lib.hid (entsB_bd _)
        generalize entsB (prs TG VL k) = zs at hown HRZ
        obtain ⟨ba, cp, rfl, hcap, hcm⟩ := own_slice_cap hown
        have hby := Bys.own HRZ.out hown
        have HS : Hid (∀ w1, Below wo.heap.size wo w1 → Bys w1 wo.heap.size ba (16 * k) zs) := Lib.hid (fun w1 h1 => hby.below h1)
        have HB2 := Lib.hid hbel
        have HBW := HB2
        clear hown hbel hby
        obtain ⟨E, S, hES⟩ : ∃ E S, getDy zs = (E, S) := ⟨_, _, rfl⟩
        have HG1 := Lib.hid (get5_any _ _ _ _ _ _ (HS.out _ (Below.refl _ _)) (Nat.le_refl _) (by omega) hcap hcm)
        have HG2 := Lib.hid (fun w1 h1 => rget5_any _ _ _ cp _ w1 (HS.out w1 h1) (Below.size h1) (by omega))
        rw [hES] at HG1 HG2
        clear hES
        go_wp2_with fail
        refine HG1.out.mono ?_
        rintro r v2 ⟨ht, hb2⟩
        obtain ⟨na, nn, nc, x0, x1, x2, x3, x4, x5, x6, hv, rfl, hnu, hnn, hvb⟩ := ht.parts
        have HB2 : Hid (Below wo.heap.size wo (v2.alloc (.cells #[.slice na nn nc, .int .u64 x0, .int .u64 x1, .int .u64 x2, .int .u64 x3, .int .u64 x4, .int .u64 x5, .int .u64 x6] 27))) := Lib.hid (hb2.alloc hb2.size _)
        have HK2 : Hid (∀ w', Below (v2.alloc (.cells #[.slice na nn nc, .int .u64 x0, .int .u64 x1, .int .u64 x2, .int .u64 x3, .int .u64 x4, .int .u64 x5, .int .u64 x6] 27)).heap.size (v2.alloc (.cells #[.slice na nn nc, .int .u64 x0, .int .u64 x1, .int .u64 x2, .int .u64 x3, .int .u64 x4, .int .u64 x5, .int .u64 x6] 27)) w' → Blk w' v2.heap.size #[.slice na nn nc, .int .u64 x0, .int .u64 x1, .int .u64 x2, .int .u64 x3, .int .u64 x4, .int .u64 x5, .int .u64 x6] 27 ∧ Nus w' w'.heap.size na nn S.nd) := Lib.hid (fun w' h => ⟨(Blk.new _ _ _).later h, (((hnu.below ((Below.refl _ _).alloc (Nat.le_refl _) _)).more (by rw [World.size_alloc]; omega)).below h).more h.size⟩)
        have HNN := Lib.hid hnu.hl
        have HMD := Lib.hid (fun w1 => model_parts na nn nc x0 x1 x2 x3 x4 x5 x6 w1 (hv ▸ hvb))
        clear ht hb2 hnu hvb
        go_wp2_with fail
        refine (HG2.out _ HB2.out).mono ?_
        rintro r v3 ⟨⟨ra, rn, rc, ga, rfl, hnr, hng, hrn⟩, hb3⟩
        obtain rfl : nn = rn := by have h5 := hnr.hl; have h6 := HNN.out; omega
        rw [hv] at hng
        have HA : Hid (Below wo.heap.size wo (v3.alloc (.cells #[.slice ra nn rc, .slice (some ⟨ga, 0, none⟩) 7 7] 32))) := Lib.hid (by
          have h := HB2.out.trans (hb3.mono HB2.out.size)
          exact h.alloc h.size _)
        have HBX : Hid (∀ w', Below (v3.alloc (.cells #[.slice ra nn rc, .slice (some ⟨ga, 0, none⟩) 7 7] 32)).heap.size (v3.alloc (.cells #[.slice ra nn rc, .slice (some ⟨ga, 0, none⟩) 7 7] 32)) w' → Blk w' v2.heap.size #[.slice na nn nc, .int .u64 x0, .int .u64 x1, .int .u64 x2, .int .u64 x3, .int .u64 x4, .int .u64 x5, .int .u64 x6] 27 ∧ Blk w' v3.heap.size #[.slice ra nn rc, .slice (some ⟨ga, 0, none⟩) 7 7] 32 ∧ Nus w' w'.heap.size na nn S.nd ∧ Nus w' w'.heap.size ra nn S.nd ∧ Nus w' w'.heap.size (some ⟨ga, 0, none⟩) 7 [x0, x1, x2, x3, x4, x5, x6]) := Lib.hid (fun w' h => by
          have h0 : Below v3.heap.size v3 (v3.alloc (.cells #[.slice ra nn rc, .slice (some ⟨ga, 0, none⟩) 7 7] 32)) := (Below.refl _ _).alloc (Nat.le_refl _) _
          have h1 := h0.trans (h.mono h0.size)
          have h2 := HK2.out w' (hb3.trans (h1.mono hb3.size))
          exact ⟨h2.1, (Blk.new _ _ _).later h, h2.2, (hnr.below h1).more h1.size, (hng.below h1).more h1.size⟩)
        clear hb3 hnr hng hv HK2 HG1 HG2 HB2 HNN
        go_wp2
        refine wp_region_facts (by kernel_rfl) Stays Stays.refl Stays.trans 84 rfl [75, 76, 77, 78, 79, 80, 81, 82, 83, 4] (factsOf [Is (.int .i64 E), Is (.int .i64 E), Is (.bool true), Is (.bool true), Is (.agg #[.slice na nn nc, .int .u64 x0, .int .u64 x1, .int .u64 x2, .int .u64 x3, .int .u64 x4, .int .u64 x5, .int .u64 x6]), Mdl na nn nc [x0, x1, x2, x3, x4, x5, x6], Is (.agg #[.slice ra nn rc, .slice (some ⟨ga, 0, none⟩) 7 7]), Is (.bool true), Is (.bool true), Is (.bool true)]) (by kernel_rfl) (factsOf_mono (mono_cons (Is.mono _) (mono_cons (Is.mono _) (mono_cons (Is.mono _) (mono_cons (Is.mono _) (mono_cons (Is.mono _) (mono_cons (Mdl.mono _ _ _ _) (mono_cons (Is.mono _) (mono_cons (Is.mono _) (mono_cons (Is.mono _) (mono_cons (Is.mono _) mono_nil))))))))))) ?steps75 ?fin75
        case fin75 =>
          intro v w2 hb2 hF
          have hlast : v 9 = .bool true := hF 9 (by decide)
          have HBF : Hid (Below w.heap.size w w2) := Lib.hid (by
            have h1 := HBW.out.trans (HA.out.mono HBW.out.size)
            exact h1.drew.trans (Below.mono hb2 h1.size))
          clear hb2 hF
          simp only [putAll, List.set_cons_succ, List.set_cons_zero, Nat.reduceAdd, hlast]
          go_wp2
          go_ret
          exact ⟨rfl, HBF.out⟩
        case steps75 =>
          refine ⟨?_, ?_, ?_, ?_, ?_, ?_, ?_, ?_, ?_, ?_, trivial⟩
          all_goals intro y w2 hb hy0 hp0
          all_goals have hy := Lib.hid hy0
          all_goals have hp := Lib.hid hp0
          all_goals have hst := Lib.hid hb
          all_goals clear hy0 hp0 hb
          · have e1 : y 11 = .int .i64 E := hy.out 11 (by decide)
            refine StepG.plain rfl fun K Q hK => ?_
            simp only [fr84] at hK ⊢
            rw [e1] at hK ⊢
            go_simp
            exact hK _ _ ⟨Stays.refl _, by first | rfl | simp [Is] | (simp [factsOf, Is]; done)⟩
          · have e1 : y 13 = .int .i64 E := hy.out 13 (by decide)
            refine StepG.plain rfl fun K Q hK => ?_
            simp only [fr84] at hK ⊢
            rw [e1] at hK ⊢
            go_simp
            exact hK _ _ ⟨Stays.refl _, by first | rfl | simp [Is] | (simp [factsOf, Is]; done)⟩
          · have e1 : y 75 = .int .i64 E := hp.out 0 (by decide)
            have e2 : y 76 = .int .i64 E := hp.out 1 (by decide)
            refine StepG.plain rfl fun K Q hK => ?_
            simp only [fr84] at hK ⊢
            rw [e1, e2] at hK ⊢
            go_simp
            exact hK _ _ ⟨Stays.refl _, by first | rfl | simp [Is] | (simp [factsOf, Is]; done)⟩
          · have e1 : y 77 = .bool true := hp.out 2 (by decide)
            refine StepG.plain rfl fun K Q hK => ?_
            simp only [fr84] at hK ⊢
            rw [e1] at hK ⊢
            go_simp
            exact hK _ _ ⟨Stays.refl _, by first | rfl | simp [Is] | (simp [factsOf, Is]; done)⟩
          · have e1 : y 10 = .pointer (some ⟨v2.heap.size, 0, none⟩) := hy.out 10 (by decide)
            obtain ⟨q0, q1, q2, q3, q4, q5, q6, q7⟩ := c8 (HBX.out _ ((Below.refl _ _).drew.trans hst.out)).1
            refine StepG.yes (b := true) (t := 78) rfl rfl rfl (by decide) (hp.out 3 (by decide)) fun K Q hK => ?_
            simp only [fr84] at hK ⊢
            rw [e1] at hK ⊢
            go_simp
            exact hK _ _ ⟨Stays.refl _, by first | rfl | simp [Is] | (simp [factsOf, Is]; done)⟩
          · have e1 : y 79 = .agg #[.slice na nn nc, .int .u64 x0, .int .u64 x1, .int .u64 x2, .int .u64 x3, .int .u64 x4, .int .u64 x5, .int .u64 x6] := hp.out 4 (by decide)
            refine StepG.yes (b := true) (t := 78) rfl rfl rfl (by decide) (hp.out 3 (by decide)) fun K Q hK => ?_
            simp only [fr84] at hK ⊢
            rw [e1] at hK ⊢
            go_simp
            go_at_call 12
            refine (HMD.out _).mono ?_
            rintro r w3 ⟨⟨u, rfl, hm⟩, hb3⟩
            exact hK _ w3 ⟨hb3, hm⟩
          · have e1 : y 12 = .pointer (some ⟨v3.heap.size, 0, none⟩) := hy.out 12 (by decide)
            obtain ⟨q0, q1⟩ := b2 (HBX.out _ ((Below.refl _ _).drew.trans hst.out)).2.1
            refine StepG.yes (b := true) (t := 78) rfl rfl rfl (by decide) (hp.out 3 (by decide)) fun K Q hK => ?_
            simp only [fr84] at hK ⊢
            rw [e1] at hK ⊢
            go_simp
            exact hK _ _ ⟨Stays.refl _, by first | rfl | simp [Is] | (simp [factsOf, Is]; done)⟩
          · have e2 : y 81 = .agg #[.slice ra nn rc, .slice (some ⟨ga, 0, none⟩) 7 7] := hp.out 6 (by decide)
            obtain ⟨gm, e1, hnm⟩ : Mdl na nn nc [x0, x1, x2, x3, x4, x5, x6] (y 80) w2 := hp.out 5 (by decide)
            obtain ⟨-, -, n1, n2, n3⟩ := (HBX.out _ ((Below.refl _ _).drew.trans hst.out))
            refine StepG.yes (b := true) (t := 78) rfl rfl rfl (by decide) (hp.out 3 (by decide)) fun K Q hK => ?_
            simp only [fr84] at hK ⊢
            rw [e1, e2] at hK ⊢
            go_simp
            go_at_call 15
            refine (same_yes _ _ _ _ _ _ _ _ _ _ _ _ _ n1 n2 hnm n3 (Nat.le_refl _) hnn).mono ?_
            rintro r w3 ⟨rfl, hb3⟩
            exact hK _ w3 ⟨hb3, rfl⟩
          · have e1 : y 78 = .bool true := hp.out 3 (by decide)
            have e2 : y 82 = .bool true := hp.out 7 (by decide)
            refine StepG.plain rfl fun K Q hK => ?_
            simp only [fr84] at hK ⊢
            rw [e1, e2] at hK ⊢
            go_simp
            exact hK _ _ ⟨Stays.refl _, by first | rfl | simp [Is] | (simp [factsOf, Is]; done)⟩
          · have e1 : y 83 = .bool true := hp.out 8 (by decide)
            refine StepG.plain rfl fun K Q hK => ?_
            simp only [fr84] at hK ⊢
            rw [e1] at hK ⊢
            go_simp
            exact hK _ _ ⟨Stays.refl _, by first | rfl | simp [Is] | (simp [factsOf, Is]; done)⟩
    · have hl0i : ¬ (k : Int) < len0 := by omega
      have HRZ : Hid (∀ n ∈ entsB (prs TG VL k), 0 ≤ n ∧ n ≤ 255) := Lib.hid (entsB_bd _)
      generalize entsB (prs TG VL k) = zs at hown HRZ
      obtain ⟨ba, cp, rfl, hcap, hcm⟩ := own_slice_cap hown
      have hby := Bys.own HRZ.out hown
      have HS : Hid (∀ w1, Below wo.heap.size wo w1 → Bys w1 wo.heap.size ba (16 * k) zs) := Lib.hid (fun w1 h1 => hby.below h1)
      have HB2 := Lib.hid hbel
      have HBW := HB2
      clear hown hbel hby
      obtain ⟨E, S, hES⟩ : ∃ E S, getDy zs = (E, S) := ⟨_, _, rfl⟩
      have HG1 := Lib.hid (get5_any _ _ _ _ _ _ (HS.out _ (Below.refl _ _)) (Nat.le_refl _) (by omega) hcap hcm)
      have HG2 := Lib.hid (fun w1 h1 => rget5_any _ _ _ cp _ w1 (HS.out w1 h1) (Below.size h1) (by omega))
      rw [hES] at HG1 HG2
      clear hES
      go_wp2_with fail
      refine HG1.out.mono ?_
      rintro r v2 ⟨ht, hb2⟩
      obtain ⟨na, nn, nc, x0, x1, x2, x3, x4, x5, x6, hv, rfl, hnu, hnn, hvb⟩ := ht.parts
      have HB2 : Hid (Below wo.heap.size wo (v2.alloc (.cells #[.slice na nn nc, .int .u64 x0, .int .u64 x1, .int .u64 x2, .int .u64 x3, .int .u64 x4, .int .u64 x5, .int .u64 x6] 27))) := Lib.hid (hb2.alloc hb2.size _)
      have HK2 : Hid (∀ w', Below (v2.alloc (.cells #[.slice na nn nc, .int .u64 x0, .int .u64 x1, .int .u64 x2, .int .u64 x3, .int .u64 x4, .int .u64 x5, .int .u64 x6] 27)).heap.size (v2.alloc (.cells #[.slice na nn nc, .int .u64 x0, .int .u64 x1, .int .u64 x2, .int .u64 x3, .int .u64 x4, .int .u64 x5, .int .u64 x6] 27)) w' → Blk w' v2.heap.size #[.slice na nn nc, .int .u64 x0, .int .u64 x1, .int .u64 x2, .int .u64 x3, .int .u64 x4, .int .u64 x5, .int .u64 x6] 27 ∧ Nus w' w'.heap.size na nn S.nd) := Lib.hid (fun w' h => ⟨(Blk.new _ _ _).later h, (((hnu.below ((Below.refl _ _).alloc (Nat.le_refl _) _)).more (by rw [World.size_alloc]; omega)).below h).more h.size⟩)
      have HNN := Lib.hid hnu.hl
      have HMD := Lib.hid (fun w1 => model_parts na nn nc x0 x1 x2 x3 x4 x5 x6 w1 (hv ▸ hvb))
      clear ht hb2 hnu hvb
      go_wp2_with fail
      refine (HG2.out _ HB2.out).mono ?_
      rintro r v3 ⟨⟨ra, rn, rc, ga, rfl, hnr, hng, hrn⟩, hb3⟩
      obtain rfl : nn = rn := by have h5 := hnr.hl; have h6 := HNN.out; omega
      rw [hv] at hng
      have HA : Hid (Below wo.heap.size wo (v3.alloc (.cells #[.slice ra nn rc, .slice (some ⟨ga, 0, none⟩) 7 7] 32))) := Lib.hid (by
        have h := HB2.out.trans (hb3.mono HB2.out.size)
        exact h.alloc h.size _)
      have HBX : Hid (∀ w', Below (v3.alloc (.cells #[.slice ra nn rc, .slice (some ⟨ga, 0, none⟩) 7 7] 32)).heap.size (v3.alloc (.cells #[.slice ra nn rc, .slice (some ⟨ga, 0, none⟩) 7 7] 32)) w' → Blk w' v2.heap.size #[.slice na nn nc, .int .u64 x0, .int .u64 x1, .int .u64 x2, .int .u64 x3, .int .u64 x4, .int .u64 x5, .int .u64 x6] 27 ∧ Blk w' v3.heap.size #[.slice ra nn rc, .slice (some ⟨ga, 0, none⟩) 7 7] 32 ∧ Nus w' w'.heap.size na nn S.nd ∧ Nus w' w'.heap.size ra nn S.nd ∧ Nus w' w'.heap.size (some ⟨ga, 0, none⟩) 7 [x0, x1, x2, x3, x4, x5, x6]) := Lib.hid (fun w' h => by
        have h0 : Below v3.heap.size v3 (v3.alloc (.cells #[.slice ra nn rc, .slice (some ⟨ga, 0, none⟩) 7 7] 32)) := (Below.refl _ _).alloc (Nat.le_refl _) _
        have h1 := h0.trans (h.mono h0.size)
        have h2 := HK2.out w' (hb3.trans (h1.mono hb3.size))
        exact ⟨h2.1, (Blk.new _ _ _).later h, h2.2, (hnr.below h1).more h1.size, (hng.below h1).more h1.size⟩)
      clear hb3 hnr hng hv HK2 HG1 HG2 HB2 HNN
      go_wp2
      refine wp_region_facts (by kernel_rfl) Stays Stays.refl Stays.trans 84 rfl [75, 76, 77, 78, 79, 80, 81, 82, 83, 4] (factsOf [Is (.int .i64 E), Is (.int .i64 E), Is (.bool true), Is (.bool true), Is (.agg #[.slice na nn nc, .int .u64 x0, .int .u64 x1, .int .u64 x2, .int .u64 x3, .int .u64 x4, .int .u64 x5, .int .u64 x6]), Mdl na nn nc [x0, x1, x2, x3, x4, x5, x6], Is (.agg #[.slice ra nn rc, .slice (some ⟨ga, 0, none⟩) 7 7]), Is (.bool true), Is (.bool true), Is (.bool true)]) (by kernel_rfl) (factsOf_mono (mono_cons (Is.mono _) (mono_cons (Is.mono _) (mono_cons (Is.mono _) (mono_cons (Is.mono _) (mono_cons (Is.mono _) (mono_cons (Mdl.mono _ _ _ _) (mono_cons (Is.mono _) (mono_cons (Is.mono _) (mono_cons (Is.mono _) (mono_cons (Is.mono _) mono_nil))))))))))) ?steps75 ?fin75
      case fin75 =>
        intro v w2 hb2 hF
        have hlast : v 9 = .bool true := hF 9 (by decide)
        have HBF : Hid (Below w.heap.size w w2) := Lib.hid (by
          have h1 := HBW.out.trans (HA.out.mono HBW.out.size)
          exact h1.drew.trans (Below.mono hb2 h1.size))
        clear hb2 hF
        simp only [putAll, List.set_cons_succ, List.set_cons_zero, Nat.reduceAdd, hlast]
        go_wp2
        go_ret
        exact ⟨rfl, HBF.out⟩
      case steps75 =>
        refine ⟨?_, ?_, ?_, ?_, ?_, ?_, ?_, ?_, ?_, ?_, trivial⟩
        all_goals intro y w2 hb hy0 hp0
        all_goals have hy := Lib.hid hy0
        all_goals have hp := Lib.hid hp0
        all_goals have hst := Lib.hid hb
        all_goals clear hy0 hp0 hb
        · have e1 : y 11 = .int .i64 E := hy.out 11 (by decide)
          refine StepG.plain rfl fun K Q hK => ?_
          simp only [fr84] at hK ⊢
          rw [e1] at hK ⊢
          go_simp
          exact hK _ _ ⟨Stays.refl _, by first | rfl | simp [Is] | (simp [factsOf, Is]; done)⟩
        · have e1 : y 13 = .int .i64 E := hy.out 13 (by decide)
          refine StepG.plain rfl fun K Q hK => ?_
          simp only [fr84] at hK ⊢
          rw [e1] at hK ⊢
          go_simp
          exact hK _ _ ⟨Stays.refl _, by first | rfl | simp [Is] | (simp [factsOf, Is]; done)⟩
        · have e1 : y 75 = .int .i64 E := hp.out 0 (by decide)
          have e2 : y 76 = .int .i64 E := hp.out 1 (by decide)
          refine StepG.plain rfl fun K Q hK => ?_
          simp only [fr84] at hK ⊢
          rw [e1, e2] at hK ⊢
          go_simp
          exact hK _ _ ⟨Stays.refl _, by first | rfl | simp [Is] | (simp [factsOf, Is]; done)⟩
        · have e1 : y 77 = .bool true := hp.out 2 (by decide)
          refine StepG.plain rfl fun K Q hK => ?_
          simp only [fr84] at hK ⊢
          rw [e1] at hK ⊢
          go_simp
          exact hK _ _ ⟨Stays.refl _, by first | rfl | simp [Is] | (simp [factsOf, Is]; done)⟩
        · have e1 : y 10 = .pointer (some ⟨v2.heap.size, 0, none⟩) := hy.out 10 (by decide)
          obtain ⟨q0, q1, q2, q3, q4, q5, q6, q7⟩ := c8 (HBX.out _ ((Below.refl _ _).drew.trans hst.out)).1
          refine StepG.yes (b := true) (t := 78) rfl rfl rfl (by decide) (hp.out 3 (by decide)) fun K Q hK => ?_
          simp only [fr84] at hK ⊢
          rw [e1] at hK ⊢
          go_simp
          exact hK _ _ ⟨Stays.refl _, by first | rfl | simp [Is] | (simp [factsOf, Is]; done)⟩
        · have e1 : y 79 = .agg #[.slice na nn nc, .int .u64 x0, .int .u64 x1, .int .u64 x2, .int .u64 x3, .int .u64 x4, .int .u64 x5, .int .u64 x6] := hp.out 4 (by decide)
          refine StepG.yes (b := true) (t := 78) rfl rfl rfl (by decide) (hp.out 3 (by decide)) fun K Q hK => ?_
          simp only [fr84] at hK ⊢
          rw [e1] at hK ⊢
          go_simp
          go_at_call 12
          refine (HMD.out _).mono ?_
          rintro r w3 ⟨⟨u, rfl, hm⟩, hb3⟩
          exact hK _ w3 ⟨hb3, hm⟩
        · have e1 : y 12 = .pointer (some ⟨v3.heap.size, 0, none⟩) := hy.out 12 (by decide)
          obtain ⟨q0, q1⟩ := b2 (HBX.out _ ((Below.refl _ _).drew.trans hst.out)).2.1
          refine StepG.yes (b := true) (t := 78) rfl rfl rfl (by decide) (hp.out 3 (by decide)) fun K Q hK => ?_
          simp only [fr84] at hK ⊢
          rw [e1] at hK ⊢
          go_simp
          exact hK _ _ ⟨Stays.refl _, by first | rfl | simp [Is] | (simp [factsOf, Is]; done)⟩
        · have e2 : y 81 = .agg #[.slice ra nn rc, .slice (some ⟨ga, 0, none⟩) 7 7] := hp.out 6 (by decide)
          obtain ⟨gm, e1, hnm⟩ : Mdl na nn nc [x0, x1, x2, x3, x4, x5, x6] (y 80) w2 := hp.out 5 (by decide)
          obtain ⟨-, -, n1, n2, n3⟩ := (HBX.out _ ((Below.refl _ _).drew.trans hst.out))
          refine StepG.yes (b := true) (t := 78) rfl rfl rfl (by decide) (hp.out 3 (by decide)) fun K Q hK => ?_
          simp only [fr84] at hK ⊢
          rw [e1, e2] at hK ⊢
          go_simp
          go_at_call 15
          refine (same_yes _ _ _ _ _ _ _ _ _ _ _ _ _ n1 n2 hnm n3 (Nat.le_refl _) hnn).mono ?_
          rintro r w3 ⟨rfl, hb3⟩
          exact hK _ w3 ⟨hb3, rfl⟩
        · have e1 : y 78 = .bool true := hp.out 3 (by decide)
          have e2 : y 82 = .bool true := hp.out 7 (by decide)
          refine StepG.plain rfl fun K Q hK => ?_
          simp only [fr84] at hK ⊢
          rw [e1, e2] at hK ⊢
          go_simp
          exact hK _ _ ⟨Stays.refl _, by first | rfl | simp [Is] | (simp [factsOf, Is]; done)⟩
        · have e1 : y 83 = .bool true := hp.out 8 (by decide)
          refine StepG.plain rfl fun K Q hK => ?_
          simp only [fr84] at hK ⊢
          rw [e1] at hK ⊢
          go_simp
          exact hK _ _ ⟨Stays.refl _, by first | rfl | simp [Is] | (simp [factsOf, Is]; done)⟩

set_option maxRecDepth 100000 in
theorem lifted (os : Os) (started : os.Started) (H : Type) (enc : TypeId × Value → H) :
    ReturnsInHanded {} Try.checked os 5 .any (Rows.dynamicEntriesSpec.pre6 enc Try.prog Try.f5 Rows.dynamicEntriesRow.domain false) (Rows.dynamicEntriesSpec.post enc Try.prog Try.f5 false true false false) := by
  refine returnsInHanded_of_change (C := Try.checked) own started (by kernel_rfl) Try.func5
    (ChangeSpec.witness6 (enc := enc) (C := Try.checked) false ⟨#[], #[.slice none 0 0, .slice none 0 0], []⟩ 8 (by kernel_rfl) (by kernel_rfl) (by kernel_rfl) (by kernel_rfl)) ?_
  intro W base args ds gs before hval0 hW hcnd _
  have hval : ∀ (j : Nat) t v, Try.f5.params[j]? = some t → args[j]? = some v → Value.okWide Try.prog W .any base t v := hval0
  have hW' := hW
  obtain ⟨p, q, hA0, hV, rfl, hfz, hnd⟩ := hW
  have hA : DataW.TrodAll enc Try.prog W 0 (fun _ => true) true Try.f5.params.toList args.toList ds p := hA0
  rw [Try.params5] at hA hval
  obtain ⟨v0, vs0, d0, ds0, p0, q0, hargs, rfl, rfl, h0, r0⟩ := trodAll_cons hA
  obtain ⟨v1, vs1, d1, ds1, p1, q1, rfl, rfl, rfl, h1, r1⟩ := trodAll_cons r0
  obtain ⟨rfl, rfl, rfl⟩ := trodAll_nil r1
  obtain rfl : args = #[v0, v1] := by cases args; simp_all
  obtain ⟨rfl, rfl⟩ := trodVars_none hV
  obtain ⟨a0, len0, cap0, rfl⟩ := okWide_slice Try.underlying22 (hval 0 22 v0 rfl rfl)
  have k0 := h0
  have lt0 : ∀ x ∈ p0, x.block < W.heap.size := by obtain ⟨m, hm⟩ := k0; exact DataW.trod_lt m _ _ _ hm
  obtain ⟨z0, w0⟩ : ∃ zs, IsRow .u64 W a0 len0 cap0 zs := by
    obtain ⟨fuel, hf⟩ := h0
    rcases open_ints Try.underlying22 Try.underlying23 (by kernel_rfl) hf with ⟨hcs, _⟩ | ⟨x, l, c, zs, hcs, _, hl, hm, hz, _, hcell, hwz⟩
    · simp [Value.cells] at hcs
      obtain ⟨rfl, rfl, rfl⟩ := hcs
      exact ⟨[], .inl ⟨rfl, rfl, rfl, rfl⟩⟩
    · simp [Value.cells] at hcs
      obtain ⟨rfl, rfl, rfl⟩ := hcs
      exact ⟨zs, .inr ⟨_, rfl, hl, hm, by simpa using hz, hcell, hwz⟩⟩
  obtain ⟨a1, len1, cap1, rfl⟩ := okWide_slice Try.underlying22 (hval 1 22 v1 rfl rfl)
  have k1 := h1
  have lt1 : ∀ x ∈ p1, x.block < W.heap.size := by obtain ⟨m, hm⟩ := k1; exact DataW.trod_lt m _ _ _ hm
  obtain ⟨z1, w1⟩ : ∃ zs, IsRow .u64 W a1 len1 cap1 zs := by
    obtain ⟨fuel, hf⟩ := h1
    rcases open_ints Try.underlying22 Try.underlying23 (by kernel_rfl) hf with ⟨hcs, _⟩ | ⟨x, l, c, zs, hcs, _, hl, hm, hz, _, hcell, hwz⟩
    · simp [Value.cells] at hcs
      obtain ⟨rfl, rfl, rfl⟩ := hcs
      exact ⟨[], .inl ⟨rfl, rfl, rfl, rfl⟩⟩
    · simp [Value.cells] at hcs
      obtain ⟨rfl, rfl, rfl⟩ := hcs
      exact ⟨zs, .inr ⟨_, rfl, hl, hm, by simpa using hz, hcell, hwz⟩⟩
  clear hA0 hval0
  refine (walk a0 len0 cap0 z0 a1 len1 cap1 z1 W w0 w1).mono fun e W' ⟨he, bel⟩ => ?_
  subst he
  exact ⟨_, rfl, _, _, _, [], _, [], hW', trodAll_mk1 (shut_bool Try.underlying4 _), (trodAll_cons_mk (Below.trod laidOut (by kernel_rfl) (of_decide_eq_true (by kernel_rfl)) k0 bel lt0) (trodAll_cons_mk (Below.trod laidOut (by kernel_rfl) (of_decide_eq_true (by kernel_rfl)) k1 bel lt1) trodAll_mk0)), rfl, bel.frame _, fun h => by cases h⟩

theorem over : Rows.dynamicEntriesRow.holds Try.pinned (OpenSpec.ofChange Rows.dynamicEntriesSpec) :=
  OpenClaim.holds_of_wide 5 Try.f5 rfl rfl rfl rfl rfl rfl rfl ⟨rfl, rfl, rfl, rfl, rfl⟩ rfl rfl rfl rfl rfl (by kernel_rfl) Try.func5 (by kernel_rfl)
    (of_decide_eq_true (by kernel_rfl)) (by unfold Func.isWrapper; first | (rw [if_pos (by decide +kernel)]; kernel_rfl) | (rw [if_neg (by decide +kernel)]; exact ⟨rfl, rfl⟩))
    (fun os started H enc _ => lifted os started H enc)

theorem proved : Rows.DynamicEntriesSaid := over
#print axioms proved
end Go.Proofs.Ytngjnbfjlchfgaa.dynamicEntries
