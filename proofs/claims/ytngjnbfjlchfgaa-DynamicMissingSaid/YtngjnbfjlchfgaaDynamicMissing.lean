/-
  What is proved here: DynamicMissing: entries of which any are left out tell what the reference says, or are refused with the same error.
  Conditions: none of our own; the law's row says what its input is.
-/
import Derived.Test.YtngjnbfjlchfgaaRows
import Derived.Test.YtngjnbfjlchfgaaDynEnd
import Derived.Test.YtngjnbfjlchfgaaArr
import Derived.Test.YtngjnbfjlchfgaaAppZ
import Derived.WalkKit
import Derived.ProofKit
import Derived.OpenShut
import Derived.ShutString
import Derived.ChangeOld
import Derived.Below
namespace Go.Proofs.Ytngjnbfjlchfgaa.dynamicMissing
open Go.ChangeShapes Go.WideShapes Go.ChangeAt Go.RowKit
open Go.ChangeMaps (open_string shut_string)
set_option linter.unusedVariables false

theorem own : ownKnob Try.prog.godebug = none := by kernel_rfl
theorem laidOut : laidOutB Try.prog = true := by kernel_rfl

theorem fr81 (y : Nat → Value) : frameOf 81 y = #[y 0, y 1, y 2, y 3, y 4, y 5, y 6, y 7, y 8, y 9, y 10, y 11, y 12, y 13, y 14, y 15, y 16, y 17, y 18, y 19, y 20, y 21, y 22, y 23, y 24, y 25, y 26, y 27, y 28, y 29, y 30, y 31, y 32, y 33, y 34, y 35, y 36, y 37, y 38, y 39, y 40, y 41, y 42, y 43, y 44, y 45, y 46, y 47, y 48, y 49, y 50, y 51, y 52, y 53, y 54, y 55, y 56, y 57, y 58, y 59, y 60, y 61, y 62, y 63, y 64, y 65, y 66, y 67, y 68, y 69, y 70, y 71, y 72, y 73, y 74, y 75, y 76, y 77, y 78, y 79, y 80] := rfl
theorem bd_u8 {n : Int} (h : (Lit.int .u8 n).wf = true) : 0 ≤ n ∧ n ≤ 255 := by
  simpa [Lit.wf, IntKind.min, IntKind.max, IntKind.signed, IntKind.bits] using h
set_option maxRecDepth 100000 in
set_option maxHeartbeats 1600000 in
theorem walk (a0 : Int) (z1 : List Int) (w : World) (w0 : (Lit.int .u8 a0).wf = true) (w1 : IsArr .u64 7 z1) :
    Calls Try.prog 7 #[.int .u8 a0, .agg (z1.map (Value.int .u64)).toArray] w fun e w' => e = .returned (.bool true) ∧ Below w.heap.size w w' := by
  have hwb := bd_u8 w0
  obtain ⟨x0, x1, x2, x3, x4, x5, x6, hzl⟩ := list7 w1.1
  have hvb : ∀ i, i < 7 → 0 ≤ z1.getD i 0 ∧ z1.getD i 0 ≤ 18446744073709551615 := fun i hi => bd_u64 (w1.2 _ (by
    rw [List.getD_eq_getElem?_getD, List.getElem?_eq_getElem (by rw [w1.1]; exact hi)]; exact List.getElem_mem _))
  obtain ⟨i0, hi, hz0, hz1, hz2⟩ := info_parts info_u8
  have HI := Lib.hid hi
  have HZ0 := Lib.hid hz0
  have HZ1 := Lib.hid hz1
  have HZ2 := Lib.hid hz2
  have HVB := Lib.hid hvb
  have HW0 : Hid (Below w.heap.size w (w.alloc (.cells (z1.map (Value.int .u64)).toArray 24))) := Lib.hid ((Below.refl _ _).alloc (Nat.le_refl _) _)
  have HKA : Hid (∀ w', Below (w.alloc (.cells (z1.map (Value.int .u64)).toArray 24)).heap.size (w.alloc (.cells (z1.map (Value.int .u64)).toArray 24)) w' → ∀ i, i < 7 → w'.cell? ⟨w.heap.size, i, none⟩ = some (.int .u64 (z1.getD i 0))) := Lib.hid (fun w' h i hi => by
    have h1 := (Blk.new w (z1.map (Value.int .u64)).toArray 24).later h
    rw [h1.cell i]
    have := w1.1
    simp [List.getD_eq_getElem?_getD, List.getElem?_eq_getElem (show i < z1.length by omega)])
  subst hzl
  simp only [List.map_cons, List.map_nil] at HW0 HKA ⊢
  clear w0 w1 hvb hi hz0 hz1 hz2
  generalize hZ : ([x0, x1, x2, x3, x4, x5, x6] : List Int) = Z at HVB HKA
  go_enter Try.func7, Try.ntmps7
  go_wp2_with fail
  refine (awake_any _).mono ?_
  rintro r v1 ⟨rfl, hb1⟩
  have HA1 := Lib.hid hb1
  have HB1 := Lib.hid (HW0.out.trans (hb1.mono HW0.out.size))
  clear hb1
  go_wp2_with fail
  refine (tags_any _).mono ?_
  rintro r v2 ⟨rfl, hnu, hb2⟩
  obtain ⟨tb, tof, htt, htl, htc⟩ := hnu.hc (by decide)
  injection htt with htt; injection htt with ht1 ht2; subst ht1; subst ht2
  have hsz2 := hb2.size
  have HTC : Hid (∀ w', Below v2.heap.size v2 w' → ∀ i, i < 7 → w'.cell? ⟨v1.heap.size, i, none⟩ = some (.int .u64 (tagsD.getD i 0))) := Lib.hid (fun w' h i hi => by
    have h1 := htc i hi
    rw [Nat.zero_add] at h1
    exact (h.cell (p := ⟨v1.heap.size, i, none⟩) (World.block_lt_of_cell? v2 _ h1)).trans h1)
  have HVC : Hid (∀ w', Below v2.heap.size v2 w' → ∀ i, i < 7 → w'.cell? ⟨w.heap.size, i, none⟩ = some (.int .u64 (Z.getD i 0))) := Lib.hid (fun w' h i hi => by
    have h1 := HA1.out.trans (hb2.mono HA1.out.size)
    exact HKA.out w' (h1.trans (h.mono h1.size)) i hi)
  have HB2 := Lib.hid (HB1.out.trans (hb2.mono HB1.out.size))
  clear hnu hb2 htc HKA
  go_wp2
  go_loopw [7, 8] (fun v i wr => ∃ (k : Nat) (E : List (Int × Int)), k ≤ 7 ∧ E.length ≤ k ∧ i = .int .i64 k ∧ wr.ownsRow v2.heap.size 5 1 v (16 * E.length) ((entsB E).map (Value.int .u8)) ∧ Below v2.heap.size v2 wr) (fun _ i _ => 7 - (intOf i).toNat)
  case atStart => exact ⟨0, [], Nat.zero_le _, Nat.le_refl _, rfl, World.ownsRow_nil _ _ _ _, Below.refl _ _⟩
  case round =>
    obtain ⟨k, E, hk, hE, rfl, hown, hbel⟩ := hrel
    obtain ⟨wo, rfl⟩ : ∃ wo : World, wo = wr := ⟨_, rfl⟩
    by_cases hk7 : k < 7
    · have hk7i : (k : Int) < 7 := by omega
      have htbd := tagsD_pos hk7
      have hvbd := HVB.out k hk7
      have HTK : Hid (∀ w', Below v2.heap.size v2 w' → w'.cell? ⟨v1.heap.size, k, none⟩ = some (.int .u64 (tagsD.getD k 0))) := Lib.hid (fun w' h => HTC.out w' h k hk7)
      have HVK : Hid (∀ w', Below v2.heap.size v2 w' → w'.cell? ⟨w.heap.size, k, none⟩ = some (.int .u64 (Z.getD k 0))) := Lib.hid (fun w' h => HVC.out w' h k hk7)
      generalize tagsD.getD k 0 = t at HTK htbd
      generalize Z.getD k 0 = x at HVK hvbd
      have HOW := Lib.hid hown
      have HBE := Lib.hid hbel
      clear hown hbel
      cases htb : (bits BinOp.and IntKind.u8 (a0 / 2 ^ k) 1 == 0) with
      | true =>
        go_wp2
        exact ⟨⟨k + 1, E, by omega, by omega, by go_num, HOW.out, HBE.out⟩, by (simp [intOf] <;> omega)⟩
      | false =>
        go_wp2
        go_loopw [7, 9] (fun v q wx => ∃ j : Nat, j ≤ 8 ∧ q = .int .i64 j ∧ wx.ownsRow v2.heap.size 5 1 v (16 * E.length + j) ((entsB E ++ digs t j).map (Value.int .u8)) ∧ Below v2.heap.size v2 wx) (fun _ q _ => 8 - (intOf q).toNat)
        case atStart => exact ⟨0, Nat.zero_le _, rfl, by simpa [digs] using HOW.out, HBE.out⟩
        case round =>
          obtain ⟨j, hj, rfl, hown, hbel⟩ := hrel
          by_cases hlt : j < 8
          · have hji : (j : Int) < 8 := by omega
            have hce := HTK.out _ hbel
            have HSB := Lib.hid (shr_byte t j)
            have hdg : Hid (digs t (j + 1) = digs t j ++ [t / 256 ^ j % 256]) := Lib.hid rfl
            have hsz := hbel.size
            have HOWN := Lib.hid hown
            have HBE := Lib.hid hbel
            clear hown hbel
            go_wp2_with (at_builtin; refine wpList_append_own _ rfl _ _ 28 rfl v2.heap.size 5 i0 (.int .u8 0) 1 1 Try.underlying28 HI.out HZ0.out HZ1.out HZ2.out rfl (by decide) _ (16 * E.length + j) _ rfl (HOWN.out.alloc _) ⟨wr.heap.size, 0, none⟩ 1 1 [.int .u8 (t / 2 ^ (8 * j) % 256)] rfl rfl ?c1 ?c2 ?c3 ?c4 ?c5 ?_)
            case c1 => exact cell_one_new _ _ _
            case c2 => intro u hu; obtain rfl := List.mem_singleton.1 hu; rfl
            case c3 => unfold maxLen; omega
            case c4 => omega
            case c5 => simp; omega
            intro v4 w2 hown2 hg2 hnil2
            have hb2 : Below v2.heap.size v2 w2 := (HBE.out.alloc (by omega) _).grown hg2 (by simp; omega) (fun q e => (HOWN.out.lt q e).1)
            have HO2 : Hid (w2.ownsRow v2.heap.size 5 1 v4 (16 * E.length + (j + 1)) ((entsB E ++ digs t (j + 1)).map (Value.int .u8))) := Lib.hid (by
              rw [hdg.out, ← HSB.out]; simpa only [List.map_append, List.append_assoc, List.map_cons, List.map_nil, Nat.add_assoc] using hown2)
            clear hown2 hg2 hnil2
            go_wp2
            go_roundw
            case rel => exact ⟨j + 1, by omega, by go_num, HO2.out, hb2⟩
            case measure => (simp [intOf] <;> omega)
          · obtain rfl : j = 8 := by omega
            rw [show ((8 : Nat) : Int) = 8 from rfl]
            have HO7 : Hid (wr.ownsRow v2.heap.size 5 1 _ (16 * E.length + 8) ((entsB E ++ digs t 8).map (Value.int .u8))) := Lib.hid hown
            have HB7 := Lib.hid hbel
            clear hown hbel
            obtain ⟨wi, rfl⟩ : ∃ wi : World, wi = wr := ⟨_, rfl⟩
            go_wp2
            go_loopw [7, 10] (fun v q wx => ∃ j : Nat, j ≤ 8 ∧ q = .int .i64 j ∧ wx.ownsRow v2.heap.size 5 1 v (16 * E.length + 8 + j) ((entsB E ++ digs t 8 ++ digs x j).map (Value.int .u8)) ∧ Below v2.heap.size v2 wx) (fun _ q _ => 8 - (intOf q).toNat)
            case atStart => exact ⟨0, Nat.zero_le _, rfl, by simpa [digs] using HO7.out, HB7.out⟩
            case round =>
              obtain ⟨j, hj, rfl, hown, hbel⟩ := hrel
              by_cases hlt : j < 8
              · have hji : (j : Int) < 8 := by omega
                have hce := HVK.out _ hbel
                have HSB := Lib.hid (shr_byte x j)
                have hdg : Hid (digs x (j + 1) = digs x j ++ [x / 256 ^ j % 256]) := Lib.hid rfl
                have hsz := hbel.size
                have HOWN := Lib.hid hown
                have HBE := Lib.hid hbel
                clear hown hbel
                go_wp2_with (at_builtin; refine wpList_append_own _ rfl _ _ 28 rfl v2.heap.size 5 i0 (.int .u8 0) 1 1 Try.underlying28 HI.out HZ0.out HZ1.out HZ2.out rfl (by decide) _ (16 * E.length + 8 + j) _ rfl (HOWN.out.alloc _) ⟨wr.heap.size, 0, none⟩ 1 1 [.int .u8 (x / 2 ^ (8 * j) % 256)] rfl rfl ?d1 ?d2 ?d3 ?d4 ?d5 ?_)
                case d1 => exact cell_one_new _ _ _
                case d2 => intro u hu; obtain rfl := List.mem_singleton.1 hu; rfl
                case d3 => unfold maxLen; omega
                case d4 => omega
                case d5 => simp; omega
                intro v4 w2 hown2 hg2 hnil2
                have hb2 : Below v2.heap.size v2 w2 := (HBE.out.alloc (by omega) _).grown hg2 (by simp; omega) (fun q e => (HOWN.out.lt q e).1)
                have HO2 : Hid (w2.ownsRow v2.heap.size 5 1 v4 (16 * E.length + 8 + (j + 1)) ((entsB E ++ digs t 8 ++ digs x (j + 1)).map (Value.int .u8))) := Lib.hid (by
                  rw [hdg.out, ← HSB.out]; simpa only [List.map_append, List.append_assoc, List.map_cons, List.map_nil, Nat.add_assoc] using hown2)
                clear hown2 hg2 hnil2
                go_wp2
                go_roundw
                case rel => exact ⟨j + 1, by omega, by go_num, HO2.out, hb2⟩
                case measure => (simp [intOf] <;> omega)
              · obtain rfl : j = 8 := by omega
                rw [show ((8 : Nat) : Int) = 8 from rfl]
                have HO8 : Hid (wr.ownsRow v2.heap.size 5 1 _ (16 * (E ++ [(t, x)]).length) ((entsB (E ++ [(t, x)])).map (Value.int .u8))) := Lib.hid (by
                  rw [entsB_snoc, List.length_append]
                  simpa only [entB, List.append_assoc, Nat.mul_add, Nat.mul_one, Nat.add_assoc, List.length_cons, List.length_nil, Nat.zero_add] using hown)
                have HB8 := Lib.hid hbel
                clear hown hbel
                go_wp2
                go_roundw
                case rel => exact ⟨k + 1, E ++ [(t, x)], by omega, by simp; omega, by go_num, HO8.out, HB8.out⟩
                case measure => (simp [intOf] <;> omega)
    · have hk7i : ¬ (k : Int) < 7 := by omega
      have HOWN := Lib.hid hown
      have HBE := Lib.hid hbel
      have hsb := hbel.size
      clear hown hbel
      go_wp2_with (at_builtin; refine wpList_append_zeros rfl _ _ 28 3 rfl v2.heap.size 5 i0 (.int .u8 0) Try.underlying28 Try.underlying3 HI.out HZ0.out HZ1.out HZ2.out rfl rfl _ (16 * E.length) _ rfl HOWN.out 16 rfl (by decide) (by decide) (by omega) hsb ?_)
      intro u5 v5 ho5 hg5
      have HO5 : Hid (v5.ownsRow v2.heap.size 5 1 u5 (16 * E.length + 16) ((entsB E ++ List.replicate 16 0).map (Value.int .u8))) := Lib.hid (by
        rw [List.map_append, List.map_replicate]; exact ho5)
      have HRZ : Hid (∀ n ∈ entsB E ++ List.replicate 16 0, 0 ≤ n ∧ n ≤ 255) := Lib.hid (by
        intro n hn
        rcases List.mem_append.1 hn with hn | hn
        · exact entsB_bd _ n hn
        · rw [List.eq_of_mem_replicate hn]; decide)
      have HB5 : Hid (Below w.heap.size w v5) := Lib.hid (HB2.out.trans ((HBE.out.grown hg5 hsb (fun q e => (HOWN.out.lt q e).1)).mono HB2.out.size))
      generalize entsB E ++ List.replicate 16 0 = zs at HO5 HRZ
      obtain ⟨ba, cp, rfl, hcap, hcm⟩ := own_slice_cap HO5.out
      have HS : Hid (∀ w1, Below v5.heap.size v5 w1 → Bys w1 v5.heap.size ba (16 * E.length + 16) zs) := Lib.hid (fun w1 h1 => (Bys.own HRZ.out HO5.out).below h1)
      clear ho5 hg5
      obtain ⟨Eq, Sq, hES⟩ : ∃ E S, getDy zs = (E, S) := ⟨_, _, rfl⟩
      have HG1 := Lib.hid (get5_any _ _ _ _ _ _ (HS.out _ (Below.refl _ _)) (Nat.le_refl _) (by omega) hcap hcm)
      have HG2 := Lib.hid (fun w1 h1 => rget5_any _ _ _ cp _ w1 (HS.out w1 h1) (Below.size h1) (by omega))
      rw [hES] at HG1 HG2
      clear hES
      go_wp2_with fail
      refine HG1.out.mono ?_
      rintro r v2q ⟨ht, hb2⟩
      obtain ⟨naq, nnq, ncq, xq0, xq1, xq2, xq3, xq4, xq5, xq6, hv, rfl, hnu, hnnq, hvb⟩ := ht.parts
      have HB2 : Hid (Below v5.heap.size v5 (v2q.alloc (.cells #[.slice naq nnq ncq, .int .u64 xq0, .int .u64 xq1, .int .u64 xq2, .int .u64 xq3, .int .u64 xq4, .int .u64 xq5, .int .u64 xq6] 27))) := Lib.hid (hb2.alloc hb2.size _)
      have HK2q : Hid (∀ w', Below (v2q.alloc (.cells #[.slice naq nnq ncq, .int .u64 xq0, .int .u64 xq1, .int .u64 xq2, .int .u64 xq3, .int .u64 xq4, .int .u64 xq5, .int .u64 xq6] 27)).heap.size (v2q.alloc (.cells #[.slice naq nnq ncq, .int .u64 xq0, .int .u64 xq1, .int .u64 xq2, .int .u64 xq3, .int .u64 xq4, .int .u64 xq5, .int .u64 xq6] 27)) w' → Blk w' v2q.heap.size #[.slice naq nnq ncq, .int .u64 xq0, .int .u64 xq1, .int .u64 xq2, .int .u64 xq3, .int .u64 xq4, .int .u64 xq5, .int .u64 xq6] 27 ∧ Nus w' w'.heap.size naq nnq Sq.nd) := Lib.hid (fun w' h => ⟨(Blk.new _ _ _).later h, (((hnu.below ((Below.refl _ _).alloc (Nat.le_refl _) _)).more (by rw [World.size_alloc]; omega)).below h).more h.size⟩)
      have HNN := Lib.hid hnu.hl
      have HMDq := Lib.hid (fun w1 => model_parts naq nnq ncq xq0 xq1 xq2 xq3 xq4 xq5 xq6 w1 (hv ▸ hvb))
      clear ht hb2 hnu hvb
      go_wp2_with fail
      refine (HG2.out _ HB2.out).mono ?_
      rintro r v3q ⟨⟨raq, rn, rcq, gaq, rfl, hnr, hng, hrn⟩, hb3⟩
      obtain rfl : nnq = rn := by have h5 := hnr.hl; have h6 := HNN.out; omega
      rw [hv] at hng
      have HAq : Hid (Below v5.heap.size v5 (v3q.alloc (.cells #[.slice raq nnq rcq, .slice (some ⟨gaq, 0, none⟩) 7 7] 32))) := Lib.hid (by
        have h := HB2.out.trans (hb3.mono HB2.out.size)
        exact h.alloc h.size _)
      have HBXq : Hid (∀ w', Below (v3q.alloc (.cells #[.slice raq nnq rcq, .slice (some ⟨gaq, 0, none⟩) 7 7] 32)).heap.size (v3q.alloc (.cells #[.slice raq nnq rcq, .slice (some ⟨gaq, 0, none⟩) 7 7] 32)) w' → Blk w' v2q.heap.size #[.slice naq nnq ncq, .int .u64 xq0, .int .u64 xq1, .int .u64 xq2, .int .u64 xq3, .int .u64 xq4, .int .u64 xq5, .int .u64 xq6] 27 ∧ Blk w' v3q.heap.size #[.slice raq nnq rcq, .slice (some ⟨gaq, 0, none⟩) 7 7] 32 ∧ Nus w' w'.heap.size naq nnq Sq.nd ∧ Nus w' w'.heap.size raq nnq Sq.nd ∧ Nus w' w'.heap.size (some ⟨gaq, 0, none⟩) 7 [xq0, xq1, xq2, xq3, xq4, xq5, xq6]) := Lib.hid (fun w' h => by
        have h0 : Below v3q.heap.size v3q (v3q.alloc (.cells #[.slice raq nnq rcq, .slice (some ⟨gaq, 0, none⟩) 7 7] 32)) := (Below.refl _ _).alloc (Nat.le_refl _) _
        have h1 := h0.trans (h.mono h0.size)
        have h2 := HK2q.out w' (hb3.trans (h1.mono hb3.size))
        exact ⟨h2.1, (Blk.new _ _ _).later h, h2.2, (hnr.below h1).more h1.size, (hng.below h1).more h1.size⟩)
      clear hb3 hnr hng hv HK2q HG1 HG2 HB2 HNN
      go_wp2
      refine wp_region_facts (by kernel_rfl) Stays Stays.refl Stays.trans 81 rfl [72, 73, 74, 75, 76, 77, 78, 79, 80, 4] (factsOf [Is (.int .i64 Eq), Is (.int .i64 Eq), Is (.bool true), Is (.bool true), Is (.agg #[.slice naq nnq ncq, .int .u64 xq0, .int .u64 xq1, .int .u64 xq2, .int .u64 xq3, .int .u64 xq4, .int .u64 xq5, .int .u64 xq6]), Mdl naq nnq ncq [xq0, xq1, xq2, xq3, xq4, xq5, xq6], Is (.agg #[.slice raq nnq rcq, .slice (some ⟨gaq, 0, none⟩) 7 7]), Is (.bool true), Is (.bool true), Is (.bool true)]) (by kernel_rfl) (factsOf_mono (mono_cons (Is.mono _) (mono_cons (Is.mono _) (mono_cons (Is.mono _) (mono_cons (Is.mono _) (mono_cons (Is.mono _) (mono_cons (Mdl.mono _ _ _ _) (mono_cons (Is.mono _) (mono_cons (Is.mono _) (mono_cons (Is.mono _) (mono_cons (Is.mono _) mono_nil))))))))))) ?steps72 ?fin72
      case fin72 =>
        intro v w2 hb2 hF
        have hlast : v 9 = .bool true := hF 9 (by decide)
        have HBF : Hid (Below w.heap.size w w2) := Lib.hid (by
          have h1 := HB5.out.trans (HAq.out.mono HB5.out.size)
          exact h1.drew.trans (Below.mono hb2 h1.size))
        clear hb2 hF
        simp only [putAll, List.set_cons_succ, List.set_cons_zero, Nat.reduceAdd, hlast]
        go_wp2
        go_ret
        exact ⟨rfl, HBF.out⟩
      case steps72 =>
        refine ⟨?_, ?_, ?_, ?_, ?_, ?_, ?_, ?_, ?_, ?_, trivial⟩
        all_goals intro y w2 hb hy0 hp0
        all_goals have hy := Lib.hid hy0
        all_goals have hp := Lib.hid hp0
        all_goals have hst := Lib.hid hb
        all_goals clear hy0 hp0 hb
        · have e1 : y 12 = .int .i64 Eq := hy.out 12 (by decide)
          refine StepG.plain rfl fun K Q hK => ?_
          simp only [fr81] at hK ⊢
          rw [e1] at hK ⊢
          go_simp
          exact hK _ _ ⟨Stays.refl _, by first | rfl | simp [Is] | (simp [factsOf, Is]; done)⟩
        · have e1 : y 14 = .int .i64 Eq := hy.out 14 (by decide)
          refine StepG.plain rfl fun K Q hK => ?_
          simp only [fr81] at hK ⊢
          rw [e1] at hK ⊢
          go_simp
          exact hK _ _ ⟨Stays.refl _, by first | rfl | simp [Is] | (simp [factsOf, Is]; done)⟩
        · have e1 : y 72 = .int .i64 Eq := hp.out 0 (by decide)
          have e2 : y 73 = .int .i64 Eq := hp.out 1 (by decide)
          refine StepG.plain rfl fun K Q hK => ?_
          simp only [fr81] at hK ⊢
          rw [e1, e2] at hK ⊢
          go_simp
          exact hK _ _ ⟨Stays.refl _, by first | rfl | simp [Is] | (simp [factsOf, Is]; done)⟩
        · have e1 : y 74 = .bool true := hp.out 2 (by decide)
          refine StepG.plain rfl fun K Q hK => ?_
          simp only [fr81] at hK ⊢
          rw [e1] at hK ⊢
          go_simp
          exact hK _ _ ⟨Stays.refl _, by first | rfl | simp [Is] | (simp [factsOf, Is]; done)⟩
        · have e1 : y 11 = .pointer (some ⟨v2q.heap.size, 0, none⟩) := hy.out 11 (by decide)
          obtain ⟨q0, q1, q2, q3, q4, q5, q6, q7⟩ := c8 (HBXq.out _ ((Below.refl _ _).drew.trans hst.out)).1
          refine StepG.yes (b := true) (t := 75) rfl rfl rfl (by decide) (hp.out 3 (by decide)) fun K Q hK => ?_
          simp only [fr81] at hK ⊢
          rw [e1] at hK ⊢
          go_simp
          exact hK _ _ ⟨Stays.refl _, by first | rfl | simp [Is] | (simp [factsOf, Is]; done)⟩
        · have e1 : y 76 = .agg #[.slice naq nnq ncq, .int .u64 xq0, .int .u64 xq1, .int .u64 xq2, .int .u64 xq3, .int .u64 xq4, .int .u64 xq5, .int .u64 xq6] := hp.out 4 (by decide)
          refine StepG.yes (b := true) (t := 75) rfl rfl rfl (by decide) (hp.out 3 (by decide)) fun K Q hK => ?_
          simp only [fr81] at hK ⊢
          rw [e1] at hK ⊢
          go_simp
          go_at_call 12
          refine (HMDq.out _).mono ?_
          rintro r w3 ⟨⟨u, rfl, hm⟩, hb3⟩
          exact hK _ w3 ⟨hb3, hm⟩
        · have e1 : y 13 = .pointer (some ⟨v3q.heap.size, 0, none⟩) := hy.out 13 (by decide)
          obtain ⟨q0, q1⟩ := b2 (HBXq.out _ ((Below.refl _ _).drew.trans hst.out)).2.1
          refine StepG.yes (b := true) (t := 75) rfl rfl rfl (by decide) (hp.out 3 (by decide)) fun K Q hK => ?_
          simp only [fr81] at hK ⊢
          rw [e1] at hK ⊢
          go_simp
          exact hK _ _ ⟨Stays.refl _, by first | rfl | simp [Is] | (simp [factsOf, Is]; done)⟩
        · have e2 : y 78 = .agg #[.slice raq nnq rcq, .slice (some ⟨gaq, 0, none⟩) 7 7] := hp.out 6 (by decide)
          obtain ⟨gm, e1, hnm⟩ : Mdl naq nnq ncq [xq0, xq1, xq2, xq3, xq4, xq5, xq6] (y 77) w2 := hp.out 5 (by decide)
          obtain ⟨-, -, n1, n2, n3⟩ := (HBXq.out _ ((Below.refl _ _).drew.trans hst.out))
          refine StepG.yes (b := true) (t := 75) rfl rfl rfl (by decide) (hp.out 3 (by decide)) fun K Q hK => ?_
          simp only [fr81] at hK ⊢
          rw [e1, e2] at hK ⊢
          go_simp
          go_at_call 15
          refine (same_yes _ _ _ _ _ _ _ _ _ _ _ _ _ n1 n2 hnm n3 (Nat.le_refl _) hnnq).mono ?_
          rintro r w3 ⟨rfl, hb3⟩
          exact hK _ w3 ⟨hb3, rfl⟩
        · have e1 : y 75 = .bool true := hp.out 3 (by decide)
          have e2 : y 79 = .bool true := hp.out 7 (by decide)
          refine StepG.plain rfl fun K Q hK => ?_
          simp only [fr81] at hK ⊢
          rw [e1, e2] at hK ⊢
          go_simp
          exact hK _ _ ⟨Stays.refl _, by first | rfl | simp [Is] | (simp [factsOf, Is]; done)⟩
        · have e1 : y 80 = .bool true := hp.out 8 (by decide)
          refine StepG.plain rfl fun K Q hK => ?_
          simp only [fr81] at hK ⊢
          rw [e1] at hK ⊢
          go_simp
          exact hK _ _ ⟨Stays.refl _, by first | rfl | simp [Is] | (simp [factsOf, Is]; done)⟩

set_option maxRecDepth 100000 in
theorem lifted (os : Os) (started : os.Started) (H : Type) (enc : TypeId × Value → H) :
    ReturnsInHanded {} Try.checked os 7 .any (Rows.dynamicMissingSpec.pre6 enc Try.prog Try.f7 Rows.dynamicMissingRow.domain false) (Rows.dynamicMissingSpec.post enc Try.prog Try.f7 false true false false) := by
  refine returnsInHanded_of_change (C := Try.checked) own started (by kernel_rfl) Try.func7
    (ChangeSpec.witness6 (enc := enc) (C := Try.checked) false ⟨#[], #[.int .u8 0, .agg #[.int .u64 0, .int .u64 0, .int .u64 0, .int .u64 0, .int .u64 0, .int .u64 0, .int .u64 0]], []⟩ 8 (by kernel_rfl) (by kernel_rfl) (by kernel_rfl) (by kernel_rfl)) ?_
  intro W base args ds gs before hval0 hW hcnd _
  have hval : ∀ (j : Nat) t v, Try.f7.params[j]? = some t → args[j]? = some v → Value.okWide Try.prog W .any base t v := hval0
  have hW' := hW
  obtain ⟨p, q, hA0, hV, rfl, hfz, hnd⟩ := hW
  have hA : DataW.TrodAll enc Try.prog W 0 (fun _ => true) true Try.f7.params.toList args.toList ds p := hA0
  rw [Try.params7] at hA hval
  obtain ⟨v0, vs0, d0, ds0, p0, q0, hargs, rfl, rfl, h0, r0⟩ := trodAll_cons hA
  obtain ⟨v1, vs1, d1, ds1, p1, q1, rfl, rfl, rfl, h1, r1⟩ := trodAll_cons r0
  obtain ⟨rfl, rfl, rfl⟩ := trodAll_nil r1
  obtain rfl : args = #[v0, v1] := by cases args; simp_all
  obtain ⟨rfl, rfl⟩ := trodVars_none hV
  obtain ⟨a0, rfl, rfl, rfl, w0⟩ := open_int Try.underlying5 (hval 0 5 v0 rfl rfl) h0
  obtain ⟨cs1, rfl, hz1, _⟩ : ∃ cs, v1 = .agg cs ∧ cs.size = Try.prog.cellsOf 24 ∧ Row.okWide Try.prog W .any base 24 cs := by
    have := hval 1 24 v1 rfl rfl
    simpa [Value.okWide, Try.underlying24] using this
  rw [show Try.prog.cellsOf 24 = 7 from by kernel_rfl] at hz1
  have k1 := h1
  have lt1 : ∀ x ∈ p1, x.block < W.heap.size := by obtain ⟨m, hm⟩ := k1; exact DataW.trod_lt m _ _ _ hm
  obtain ⟨z1, w1, rfl⟩ : ∃ zs, IsArr .u64 7 zs ∧ cs1 = (zs.map (Value.int .u64)).toArray := by
    obtain ⟨fuel, hf⟩ := h1
    exact open_arr Try.underlying24 Try.underlying23 (by kernel_rfl) hz1 hf
  clear hA0 hval0
  refine (walk a0 z1 W w0 w1).mono fun e W' ⟨he, bel⟩ => ?_
  subst he
  exact ⟨_, rfl, _, _, _, [], _, [], hW', trodAll_mk1 (shut_bool Try.underlying4 _), (trodAll_cons_mk (shut_int Try.underlying5 w0) (trodAll_cons_mk (Below.trod laidOut (by kernel_rfl) (of_decide_eq_true (by kernel_rfl)) k1 bel lt1) trodAll_mk0)), rfl, bel.frame _, fun h => by cases h⟩

theorem over : Rows.dynamicMissingRow.holds Try.pinned (OpenSpec.ofChange Rows.dynamicMissingSpec) :=
  OpenClaim.holds_of_wide 7 Try.f7 rfl rfl rfl rfl rfl rfl rfl ⟨rfl, rfl, rfl, rfl, rfl⟩ rfl rfl rfl rfl rfl (by kernel_rfl) Try.func7 (by kernel_rfl)
    (of_decide_eq_true (by kernel_rfl)) (by unfold Func.isWrapper; first | (rw [if_pos (by decide +kernel)]; kernel_rfl) | (rw [if_neg (by decide +kernel)]; exact ⟨rfl, rfl⟩))
    (fun os started H enc _ => lifted os started H enc)

theorem proved : Rows.DynamicMissingSaid := over
#print axioms proved
end Go.Proofs.Ytngjnbfjlchfgaa.dynamicMissing
