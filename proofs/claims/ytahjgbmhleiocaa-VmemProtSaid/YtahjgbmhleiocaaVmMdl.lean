/-
  What is proved here: Same of the reference, of memories that are the same. · the law's model: memory's pages as the reference's memory.
  Conditions: as they say.
-/
import Derived.Test.YtahjgbmhleiocaaVmRm
import Derived.Laws.StructEq
import Derived.Test.YtahjgbmhleiocaaVmPut0
import Derived.Test.YtahjgbmhleiocaaFWords
namespace Go.Proofs.Ytahjgbmhleiocaa
open Go.RowKit Go.WideMaps Go.Maps
set_option linter.unusedVariables false
set_option linter.unusedSimpArgs false

theorem rp_same (s : Rp) (w : World) : (binOp .neq 66 s.val s.val).run Try.prog w = .ok (.bool false) w := by
  unfold Rp.val
  rw [run_neq_struct]
  go_simp
set_option maxHeartbeats 3200000 in
set_option maxRecDepth 100000 in
theorem same_ok {w : World} {B : Nat} {a a' : Option Addr} {n c c' : Nat} {L : List Rp} (h : Rp.Sl w B a n L) (h' : Rp.Sl w B a' n L) (hB : B ≤ w.heap.size) (hn : n ≤ 1000) :
    Calls Try.prog 10 #[mv a n c, mv a' n c'] w fun e w' => e = .returned (.bool true) ∧ Below w.heap.size w w' := by
  have H1 := Lib.hid h
  have H2 := Lib.hid h'
  have HB := Lib.hid hB
  have hnn : ((n : Int) != n) = false := by simp
  obtain ⟨w1, hw1⟩ : ∃ w1, (w.alloc (.cells #[.slice a n c] 34)).alloc (.cells #[.slice a' n c'] 34) = w1 := ⟨_, rfl⟩
  have B1 : Hid (Blk w1 w.heap.size #[.slice a n c] 34) := Lib.hid (by rw [← hw1]; exact (Blk.new w _ _).alloc _)
  have B2 : Hid (Blk w1 (w.heap.size + 1) #[.slice a' n c'] 34) := Lib.hid (by
    rw [← hw1]
    have := Blk.new (w.alloc (.cells #[.slice a n c] 34)) #[.slice a' n c'] 34
    rw [World.size_alloc] at this
    exact this)
  have HW1 : Hid (Below w.heap.size w w1) := Lib.hid (by rw [← hw1]; exact ((Below.refl _ _).alloc (Nat.le_refl _) _).alloc (by rw [World.size_alloc]; omega) _)
  have k1 := B1.out.cell 0
  have k2 := B2.out.cell 0
  unfold mv
  clear h h' hB
  go_enter Try.func10, Try.ntmps10
  go_wp2
  clear hw1 k1 k2
  go_loopw [5] (fun i wr => ∃ k : Nat, k ≤ n ∧ i = .int .i64 k ∧ Below w1.heap.size w1 wr) (fun i _ => n - (intOf i).toNat)
  case atStart => exact ⟨0, Nat.zero_le _, rfl, Below.refl _ _⟩
  case round =>
    obtain ⟨k, hk, rfl, hbel⟩ := hrel
    have k1 := (B1.out.later hbel).cell 0
    have k2 := (B2.out.later hbel).cell 0
    by_cases hlt : k < n
    · have hlti : (k : Int) < n := by omega
      obtain ⟨b, off, rfl, hbB, hc⟩ := H1.out.hc (by omega)
      obtain ⟨b', off', rfl, hbB', hc'⟩ := H2.out.hc (by omega)
      have hx := (hc k hlt).below ((HW1.out.mono HB.out).trans (hbel.mono (Nat.le_trans HB.out HW1.out.size))) hbB
      have hx' := (hc' k hlt).below ((HW1.out.mono HB.out).trans (hbel.mono (Nat.le_trans HB.out HW1.out.size))) hbB'
      generalize L.getD k Rp.zero = s at hx hx'
      obtain ⟨x0, x1, x2, x3, x4, x5⟩ := hx
      obtain ⟨y0, y1, y2, y3, y4, y5⟩ := hx'
      have hs := fun wx => rp_same s wx
      unfold Rp.val at hs
      have HBE := Lib.hid hbel
      clear hc hc' hbel
      go_wp2
      go_quiet (fail)
      go_wp2
      go_roundw
      case rel => exact ⟨k + 1, by omega, by go_num, below_drewN HBE.out _⟩
      case measure => (simp [intOf] <;> omega)
    · have hlti : ¬ (k : Int) < n := by omega
      have HBE := Lib.hid hbel
      clear hbel
      go_wp2
      go_ret
      exact ⟨rfl, HW1.out.trans (HBE.out.mono HW1.out.size)⟩
end Go.Proofs.Ytahjgbmhleiocaa
namespace Go.Proofs.Ytahjgbmhleiocaa
open Go.RowKit Go.WideMaps Go.Maps
set_option linter.unusedVariables false
set_option linter.unusedSimpArgs false

theorem fr49 (y : Nat → Value) : frameOf 49 y = #[y 0, y 1, y 2, y 3, y 4, y 5, y 6, y 7, y 8, y 9, y 10, y 11, y 12, y 13, y 14, y 15, y 16, y 17, y 18, y 19, y 20, y 21, y 22, y 23, y 24, y 25, y 26, y 27, y 28, y 29, y 30, y 31, y 32, y 33, y 34, y 35, y 36, y 37, y 38, y 39, y 40, y 41, y 42, y 43, y 44, y 45, y 46, y 47, y 48] := rfl
structure PMdl (w W0 W1 W2 : World) (g : Nat) (v v' : Value) (L : Nat → Bool) (y : Nat → Value) (w9 : World) : Prop where
  bel : Below w.heap.size w w9
  a : L 34 = false → w9 = W0
  b : L 34 = true → L 35 = false → w9 = W1
  c : L 35 = true → L 37 = false → w9 = W2 ∧ y 46 = v'
  d : L 37 = true → w9 = W2.setCell ⟨g, 0, none⟩ v'
  k : L 37 = false → w9.cell? ⟨g, 0, none⟩ = some v ∧ w9.frozen? ⟨g, 0, none⟩ = false
set_option maxHeartbeats 12800000 in
set_option maxRecDepth 100000 in
theorem model_ok {w : World} {B : Nat} {a : Option Addr} {n c : Nat} {M : List Pg} {bl : List Nat} (h : Vp.Sl w B a n (vps M bl)) (hbl : bl.length = M.length) (hok : ∀ p ∈ M, p.Ok) (hso : (M.map (·.a)).Pairwise (· < ·)) (hB : B ≤ w.heap.size) (hn : n ≤ 512) :
    Calls Try.prog 9 #[.slice a n c] w fun e w' => ∃ a' n' c', e = .returned (mv a' n' c') ∧ RAt w' w'.heap.size a' n' c' M ∧ Below w.heap.size w w' := by
  have hML : n = M.length := by rw [← h.hl, vps_len hbl]
  have H1 := Lib.hid h
  have HB := Lib.hid hB
  have HOK := Lib.hid hok
  have HSO := Lib.hid hso
  have HBL := Lib.hid hbl
  have HML := Lib.hid hML
  obtain ⟨w1, hw1⟩ : ∃ w1, (w.alloc (.cells #[.slice none 0 0] 34)).alloc (.cells #[.slice none 0 0] 34) = w1 := ⟨_, rfl⟩
  have hz1 : w1.heap.size = w.heap.size + 2 := by rw [← hw1]; simp
  have HZ1 := Lib.hid hz1
  have B1 : Hid (Blk w1 w.heap.size #[.slice none 0 0] 34) := Lib.hid (by rw [← hw1]; exact (Blk.new w _ _).alloc _)
  have B2 : Hid (Blk w1 (w.heap.size + 1) #[.slice none 0 0] 34) := Lib.hid (by
    rw [← hw1]
    have := Blk.new (w.alloc (.cells #[.slice none 0 0] 34)) #[.slice none 0 0] 34
    rw [World.size_alloc] at this
    exact this)
  have HWB : Hid (Below w.heap.size w w1) := Lib.hid (by rw [← hw1]; exact ((Below.refl _ _).alloc (Nat.le_refl _) _).alloc (by rw [World.size_alloc]; omega) _)
  clear h hB hok hso hbl hML hz1
  go_enter Try.func9, Try.ntmps9
  go_wp2
  clear hw1
  go_loopw [4] (fun i wr => ∃ (k : Nat) (v : Value), k ≤ n ∧ i = .int .i64 k ∧ Hid (wr.ownsRow w1.heap.size 66 6 v k (Rp.flat (rps (M.take k)))) ∧ Hid (Blk wr w.heap.size #[.slice none 0 0] 34) ∧ Hid (Blk wr (w.heap.size + 1) #[v] 34) ∧ Hid (Below w.heap.size w wr)) (fun i _ => n - (intOf i).toNat)
  case atStart => exact ⟨0, _, Nat.zero_le _, rfl, Lib.hid (World.ownsRow_nil _ _ _ _), B1, B2, HWB⟩
  case round =>
    obtain ⟨k, v, hk, rfl, HO, HK1, HK2, HBW⟩ := hrel
    by_cases hlt : k < n
    · have hlti : (k : Int) < n := by omega
      obtain ⟨b, off, rfl, hbB, hc⟩ := H1.out.hc (by omega)
      have HX : Hid (∀ wx, Below w.heap.size w wx → Vp.At wx b (off + k * 6) (mkV (M.getD k pg0) (bl.getD k 0))) := Lib.hid (fun wx hb => by
        have := hc k hlt
        rw [vps_at HBL.out (by rw [← HML.out]; exact hlt)] at this
        exact this.below (hb.mono HB.out) hbB)
      obtain ⟨x0, x1, x2, x3, x4, x5⟩ := HX.out _ HBW.out
      obtain ⟨p, hp⟩ : ∃ p, M.getD k pg0 = p := ⟨_, rfl⟩
      obtain ⟨bp, hbp⟩ : ∃ b, bl.getD k 0 = b := ⟨_, rfl⟩
      rw [hp, hbp] at x0 x1 x2 x3 x4 x5 HX
      have x0 : wr.cell? ⟨b, off + k * 6, none⟩ = some (.int .u64 p.a) := x0
      have x1 : wr.cell? ⟨b, off + k * 6 + 1, none⟩ = some (.int .i64 p.prot) := x1
      have x2 : wr.cell? ⟨b, off + k * 6 + 2, none⟩ = some (.bool p.dirty) := x2
      have x3 : wr.cell? ⟨b, off + k * 6 + 3, none⟩ = some (.string p.file) := x3
      have x4 : wr.cell? ⟨b, off + k * 6 + 4, none⟩ = some (.int .u64 p.off) := x4
      have x5 : wr.cell? ⟨b, off + k * 6 + 5, none⟩ = some (.slice (some ⟨bp, 4, none⟩) 256 256) := x5
      have y0 := HK2.out.cell 0
      have HD := Lib.hid hlt
--MDL--
      have HKI : Hid ((k : Int) < n) := Lib.hid hlti
      have HOP := HOK.out p (by rw [← hp]; exact pgs_mem (by rw [← HML.out]; exact hlt))
      have HCV : Hid (∀ wx, Below w.heap.size w wx → (convert 25 9 (.slice (some ⟨bp, 4, none⟩) 256 256)).run Try.prog wx = .ok (.string (strOfNums p.b)) wx) := Lib.hid (fun wx hb => by
        have h1 := (H1.out.okAt hlt)
        rw [vps_at HBL.out (by rw [← HML.out]; exact hlt), hp, hbp] at h1
        exact (h1.bb.bys.below (hb.mono HB.out)).conv 256)
      have htk : M.take (k + 1) = M.take k ++ [p] := by
        have hkM : k < M.length := by rw [← HML.out]; exact hlt
        rw [List.take_succ_eq_append_getElem hkM, ← hp, List.getD_eq_getElem?_getD, List.getElem?_eq_getElem hkM]; rfl
      obtain ⟨W0, hW0⟩ : ∃ W0, wr.drew = W0 := ⟨_, rfl⟩
      have hh0 : W0.heap = wr.heap := by rw [← hW0]; rfl
      obtain ⟨W1, hW1⟩ : ∃ W1, W1 = W0.alloc (.cells #[.int .u64 p.a, .int .i64 p.prot, .bool p.dirty, .string p.file, .int .u64 p.off, .string (strOfNums p.b)] 66) := ⟨_, rfl⟩
      obtain ⟨i0, hi, hz0, hz1, hz2⟩ := info_parts info_rp
      have hsz := HBW.out.size
      have hzz := HZ1.out
      have hw1b : w1.heap.size ≤ wr.heap.size := by
        have := HK2.out.lt
        omega
      have hsz0 : W0.heap.size = wr.heap.size := by rw [hh0]
      have hbA := ((show Below w1.heap.size wr W0 by rw [← hW0]; exact (Below.refl w1.heap.size wr).drew)).alloc (by omega) (.cells #[.int .u64 p.a, .int .i64 p.prot, .bool p.dirty, .string p.file, .int .u64 p.off, .string (strOfNums p.b)] 66)
      have hbW1 : Below w1.heap.size wr W1 := by rw [hW1]; exact hbA
      have hoW1 : W1.ownsRow w1.heap.size 66 6 v k (Rp.flat (rps (M.take k))) := by rw [hW1]; exact World.ownsRow.alloc (own_heap hh0 HO.out) _
      obtain ⟨v', W2, hrun, hown2, hg2, -⟩ := run_append_own (P := Try.prog) W1 w1.heap.size 32 32 66 i0 _ 6 64 Try.underlying32 hi hz0 hz1 hz2 rfl (by decide) v k _ hoW1 ⟨W0.heap.size, 0, none⟩ 1 1 [.int .u64 p.a, .int .i64 p.prot, .bool p.dirty, .string p.file, .int .u64 p.off, .string (strOfNums p.b)] rfl (by rw [hW1]; exact rp_new W0 _ _) (one_rp (rp p)) (by unfold maxLen; omega) (by omega) (by rw [hW1, World.size_alloc]; omega)
      obtain ⟨va', vc', rfl⟩ := own_slp hown2
      have hbW2 : Below w1.heap.size wr W2 := hbW1.grown hg2 (Nat.le_trans hw1b hbW1.size) (fun q e => (hoW1.lt q e).1)
      have hkb : ∀ wx, Below w1.heap.size wr wx → Blk wx w.heap.size #[.slice none 0 0] 34 ∧ Blk wx (w.heap.size + 1) #[v] 34 := fun wx hb => ⟨HK1.out.below hb (by omega), HK2.out.below hb (by omega)⟩
      have hlf : ∀ wx, Below w1.heap.size wr wx → wx.cell? ⟨w.heap.size + 1, 0, none⟩ = some v ∧ wx.frozen? ⟨w.heap.size + 1, 0, none⟩ = false := fun wx hb => ⟨(hkb wx hb).2.cell 0, (hkb wx hb).2.frozen 0⟩
      have hbW0 : Below w1.heap.size wr W0 := by rw [← hW0]; exact (Below.refl _ _).drew
      have HKW0 := Lib.hid (hlf W0 hbW0)
      have HKW1 := Lib.hid (hlf W1 hbW1)
      have HKW2 := Lib.hid (hlf W2 hbW2)
      have HBW0 := Lib.hid (HBW.out.trans (hbW0.mono HWB.out.size))
      have HBW1 := Lib.hid (HBW.out.trans (hbW1.mono HWB.out.size))
      have HBW2 := Lib.hid (HBW.out.trans (hbW2.mono HWB.out.size))
      have HBW3 : Hid (Below w.heap.size w (W2.setCell ⟨w.heap.size + 1, 0, none⟩ (.slice va' (k + 1) vc'))) := Lib.hid (HBW2.out.setCell (p := ⟨w.heap.size + 1, 0, none⟩) (by show w.heap.size ≤ w.heap.size + 1; omega) (.slice va' (k + 1) vc'))
      have HK3 : Hid (Blk (W2.setCell ⟨w.heap.size + 1, 0, none⟩ (.slice va' (k + 1) vc')) w.heap.size #[.slice none 0 0] 34) := Lib.hid (blk_same (hkb W2 hbW2).1 (Below.heap_setCell _ _ _ _ (by show w.heap.size ≠ w.heap.size + 1; omega)))
      have HK4 : Hid (Blk (W2.setCell ⟨w.heap.size + 1, 0, none⟩ (.slice va' (k + 1) vc')) (w.heap.size + 1) #[.slice va' (k + 1) vc'] 34) := Lib.hid ((hkb W2 hbW2).2.put 0 _)
      have HO3 : Hid ((W2.setCell ⟨w.heap.size + 1, 0, none⟩ (.slice va' (k + 1) vc')).ownsRow w1.heap.size 66 6 (.slice va' (k + 1) vc') (k + 1) (Rp.flat (rps (M.take (k + 1))))) := Lib.hid (by
        rw [htk, rps_app, show rps [p] = [rp p] from rfl, Rp.flat_snoc]
        refine ownsRow_setCell_below hown2 ?_ _
        show w.heap.size + 1 < w1.heap.size
        omega)
      have HRUN := Lib.hid hrun
      have HW1 := Lib.hid hW1
      have HW0 := Lib.hid hW0
      clear hc hrun hown2 hg2 hbW1 hbW2 hbW0 hkb hlf hoW1 hbA hi hz0 hz1 hz2 htk HOP hh0 hw1b hzz hsz hsz0 x0 x1 x2 x3 x4 x5 y0 hW1
      clear hW0
      go_wp2_with fail
      refine wp_region_a (by kernel_rfl) 49 rfl [11, 12, 13, 14, 15, 16, 17, 18, 19, 20, 21, 22, 23, 24, 25, 26, 27, 28, 29, 30, 31, 32, 33, 34, 35, 36, 37, 38, 39, 40, 41, 42, 43, 44, 45, 46, 47, 49] (fun _ _ => True) (factsOf [Is (.pointer (some ⟨(w.heap.size + 1), 0, none⟩)), Is (v), Is (.slice (some ⟨b, off, none⟩) n c), Is (.int .i64 (k : Int)), Is (.pointer (some ⟨b, off + k * 6, none⟩)), Is (.pointer (some ⟨b, off + k * 6, none⟩)), Is (.int .u64 p.a), Is (.slice (some ⟨b, off, none⟩) n c), Is (.int .i64 (k : Int)), Is (.pointer (some ⟨b, off + k * 6, none⟩)), Is (.pointer (some ⟨b, off + k * 6 + 1, none⟩)), Is (.int .i64 p.prot), Is (.slice (some ⟨b, off, none⟩) n c), Is (.int .i64 (k : Int)), Is (.pointer (some ⟨b, off + k * 6, none⟩)), Is (.pointer (some ⟨b, off + k * 6 + 2, none⟩)), Is (.bool p.dirty), Is (.slice (some ⟨b, off, none⟩) n c), Is (.int .i64 (k : Int)), Is (.pointer (some ⟨b, off + k * 6, none⟩)), Is (.pointer (some ⟨b, off + k * 6 + 3, none⟩)), Is (.string p.file), Is (.slice (some ⟨b, off, none⟩) n c), Is (.int .i64 (k : Int)), Is (.pointer (some ⟨b, off + k * 6, none⟩)), Is (.pointer (some ⟨b, off + k * 6 + 4, none⟩)), Is (.int .u64 p.off), Is (.slice (some ⟨b, off, none⟩) n c), Is (.int .i64 (k : Int)), Is (.pointer (some ⟨b, off + k * 6, none⟩)), Is (.pointer (some ⟨b, off + k * 6 + 5, none⟩)), Is (.slice (some ⟨bp, 4, none⟩) 256 256), Is (.string (strOfNums p.b)), Is (.agg #[.int .u64 p.a, .int .i64 p.prot, .bool p.dirty, .string p.file, .int .u64 p.off, .string (strOfNums p.b)]), Is (.slice (some ⟨W0.heap.size, 0, none⟩) 1 1), AnyB, Is (.pointer (some ⟨(w.heap.size + 1), 0, none⟩)), AnyB]) (JA [34, 35, 37] [46] (PMdl w W0 W1 W2 (w.heap.size + 1) v (.slice va' (k + 1) vc'))) ?mono5 ?hj5 (by kernel_rfl) ?start5 ?steps5 ?fin5
      case mono5 => exact factsOf_monoR (monoR_cons (Is.monoR _ _) (monoR_cons (Is.monoR _ _) (monoR_cons (Is.monoR _ _) (monoR_cons (Is.monoR _ _) (monoR_cons (Is.monoR _ _) (monoR_cons (Is.monoR _ _) (monoR_cons (Is.monoR _ _) (monoR_cons (Is.monoR _ _) (monoR_cons (Is.monoR _ _) (monoR_cons (Is.monoR _ _) (monoR_cons (Is.monoR _ _) (monoR_cons (Is.monoR _ _) (monoR_cons (Is.monoR _ _) (monoR_cons (Is.monoR _ _) (monoR_cons (Is.monoR _ _) (monoR_cons (Is.monoR _ _) (monoR_cons (Is.monoR _ _) (monoR_cons (Is.monoR _ _) (monoR_cons (Is.monoR _ _) (monoR_cons (Is.monoR _ _) (monoR_cons (Is.monoR _ _) (monoR_cons (Is.monoR _ _) (monoR_cons (Is.monoR _ _) (monoR_cons (Is.monoR _ _) (monoR_cons (Is.monoR _ _) (monoR_cons (Is.monoR _ _) (monoR_cons (Is.monoR _ _) (monoR_cons (Is.monoR _ _) (monoR_cons (Is.monoR _ _) (monoR_cons (Is.monoR _ _) (monoR_cons (Is.monoR _ _) (monoR_cons (Is.monoR _ _) (monoR_cons (Is.monoR _ _) (monoR_cons (Is.monoR _ _) (monoR_cons (Is.monoR _ _) (monoR_cons (AnyB.monoR _) (monoR_cons (Is.monoR _ _) (monoR_cons (AnyB.monoR _) (monoR_nil _)))))))))))))))))))))))))))))))))))))))
      case hj5 => exact JA.congr (by decide)
      case start5 =>
        refine JA.of fun L' y' h1 h2 => ?_
        rw [HW0.out]
        exact ⟨HBW0.out, fun _ => rfl, (fun h => by rw [h1 34 (by decide)] at h; cases h), (fun h => by rw [h1 35 (by decide)] at h; cases h), (fun h => by rw [h1 37 (by decide)] at h; cases h), fun _ => HKW0.out⟩
      case fin5 =>
        intro y L w9 hJ hall hF hT
        have hP := hJ.out
        clear hJ hF
        obtain rfl := hP.d (hall 37 (by decide))
        clear hP hall
        have e0 := hT 0 (by decide)
        have e1 := hT 1 (by decide)
        have e2 := hT 2 (by decide)
        have e3 := hT 3 (by decide)
        have e4 := hT 4 (by decide)
        have e5 := hT 5 (by decide)
        have e6 := hT 6 (by decide)
        have e7 := hT 7 (by decide)
        have e8 := hT 8 (by decide)
        have e9 := hT 9 (by decide)
        have e10 := hT 10 (by decide)
        have e48 := hT 48 (by decide)
        clear hT
        simp only [List.getD_cons_succ, List.getD_cons_zero] at e0 e1 e2 e3 e4 e5 e6 e7 e8 e9 e10 e48
        rw [fr49]
        simp only [e0, e1, e2, e3, e4, e5, e6, e7, e8, e9, e10, e48]
        clear e0 e1 e2 e3 e4 e5 e6 e7 e8 e9 e10 e48
        go_wp2
        go_roundw
        case rel => exact ⟨k + 1, _, HD.out, by go_num, HO3, HK3, HK4, HBW3⟩
        case measure => have := HD.out; simp [intOf]; omega
      case steps5 =>
        refine ⟨?_, ?_, ?_, ?_, ?_, ?_, ?_, ?_, ?_, ?_, ?_, ?_, ?_, ?_, ?_, ?_, ?_, ?_, ?_, ?_, ?_, ?_, ?_, ?_, ?_, ?_, ?_, ?_, ?_, ?_, ?_, ?_, ?_, ?_, ?_, ?_, ?_, ?_, trivial⟩
        all_goals intro L y w9 hJ hL hy0 hp0 hcl hun
        all_goals have hy := Lib.hid hy0
        all_goals have hp := Lib.hid hp0
        all_goals have HJ := Lib.hid hJ
        all_goals have HP := Lib.hid hJ.out
        all_goals have hU := Lib.hid hun
        all_goals clear hy0 hp0 hun hJ
        · have e1 : y 3 = .pointer (some ⟨(w.heap.size + 1), 0, none⟩) := hy.out 3 (by decide)
          intro K Q hK
          clear hcl hL
          have v1 := (eval_frame 49 y [] (t := 3) (by decide)).trans e1
          obtain ⟨A, hA⟩ : ∃ A, (⟨frameOf 49 y, []⟩ : Act) = A := ⟨_, rfl⟩
          rw [hA] at v1 hK ⊢
          clear hA hy hp
          simp only [Act.eval] at v1
          go_simp
          exact hK _ _ ⟨trivial, fun _ => rfl, HJ.out.pure (by decide) (by decide)⟩
        · have e1 : y 11 = .pointer (some ⟨(w.heap.size + 1), 0, none⟩) := (hp.out 0 (by decide)).2 (by decide)
          have hN37 : L 37 = false := by
            cases h : L 37 with
            | false => rfl
            | true => have := (hcl 35 _ rfl (hcl 37 _ rfl h 35 (by decide)) 1 (by decide)); rw [hL] at this; cases this
          have q0 : w9.cell? ⟨(w.heap.size + 1), 0, none⟩ = some (v) := (fun (_ : Nat) => (HP.out.k hN37).1) 0
          intro K Q hK
          clear hcl hL
          have v1 := (eval_frame 49 y [] (t := 11) (by decide)).trans e1
          obtain ⟨A, hA⟩ : ∃ A, (⟨frameOf 49 y, []⟩ : Act) = A := ⟨_, rfl⟩
          rw [hA] at v1 hK ⊢
          clear hA hy hp
          simp only [Act.eval] at v1
          go_simp
          exact hK _ _ ⟨trivial, fun _ => rfl, HJ.out.pure (by decide) (by decide)⟩
        · have e1 : y 0 = .slice (some ⟨b, off, none⟩) n c := hy.out 0 (by decide)
          intro K Q hK
          clear hcl hL
          have v1 := (eval_frame 49 y [] (t := 0) (by decide)).trans e1
          obtain ⟨A, hA⟩ : ∃ A, (⟨frameOf 49 y, []⟩ : Act) = A := ⟨_, rfl⟩
          rw [hA] at v1 hK ⊢
          clear hA hy hp
          simp only [Act.eval] at v1
          go_simp
          exact hK _ _ ⟨trivial, fun _ => rfl, HJ.out.pure (by decide) (by decide)⟩
        · have e1 : y 4 = .int .i64 (k : Int) := hy.out 4 (by decide)
          intro K Q hK
          clear hcl hL
          have v1 := (eval_frame 49 y [] (t := 4) (by decide)).trans e1
          obtain ⟨A, hA⟩ : ∃ A, (⟨frameOf 49 y, []⟩ : Act) = A := ⟨_, rfl⟩
          rw [hA] at v1 hK ⊢
          clear hA hy hp
          simp only [Act.eval] at v1
          go_simp
          exact hK _ _ ⟨trivial, fun _ => rfl, HJ.out.pure (by decide) (by decide)⟩
        · have e1 : y 13 = .slice (some ⟨b, off, none⟩) n c := (hp.out 2 (by decide)).2 (by decide)
          have e2 : y 14 = .int .i64 (k : Int) := (hp.out 3 (by decide)).2 (by decide)
          have hk1 := HKI.out
          intro K Q hK
          clear hcl hL
          have v1 := (eval_frame 49 y [] (t := 13) (by decide)).trans e1
          have v2 := (eval_frame 49 y [] (t := 14) (by decide)).trans e2
          obtain ⟨A, hA⟩ : ∃ A, (⟨frameOf 49 y, []⟩ : Act) = A := ⟨_, rfl⟩
          rw [hA] at v1 v2 hK ⊢
          clear hA hy hp
          simp only [Act.eval] at v1 v2
          go_simp
          first | exact hK _ _ ⟨trivial, fun _ => rfl, HJ.out.pure (by decide) (by decide)⟩ | (rw [if_pos ⟨by omega, by omega⟩]; exact hK _ _ ⟨trivial, fun _ => rfl, HJ.out.pure (by decide) (by decide)⟩)
        · have e1 : y 15 = .pointer (some ⟨b, off + k * 6, none⟩) := (hp.out 4 (by decide)).2 (by decide)
          intro K Q hK
          clear hcl hL
          have v1 := (eval_frame 49 y [] (t := 15) (by decide)).trans e1
          obtain ⟨A, hA⟩ : ∃ A, (⟨frameOf 49 y, []⟩ : Act) = A := ⟨_, rfl⟩
          rw [hA] at v1 hK ⊢
          clear hA hy hp
          simp only [Act.eval] at v1
          go_simp
          exact hK _ _ ⟨trivial, fun _ => rfl, HJ.out.pure (by decide) (by decide)⟩
        · have e1 : y 16 = .pointer (some ⟨b, off + k * 6, none⟩) := (hp.out 5 (by decide)).2 (by decide)
          have hce := (HX.out _ HP.out.bel).c0
          intro K Q hK
          clear hcl hL
          have v1 := (eval_frame 49 y [] (t := 16) (by decide)).trans e1
          obtain ⟨A, hA⟩ : ∃ A, (⟨frameOf 49 y, []⟩ : Act) = A := ⟨_, rfl⟩
          rw [hA] at v1 hK ⊢
          clear hA hy hp
          simp only [Act.eval] at v1
          go_simp
          exact hK _ _ ⟨trivial, fun _ => rfl, HJ.out.pure (by decide) (by decide)⟩
        · have e1 : y 0 = .slice (some ⟨b, off, none⟩) n c := hy.out 0 (by decide)
          intro K Q hK
          clear hcl hL
          have v1 := (eval_frame 49 y [] (t := 0) (by decide)).trans e1
          obtain ⟨A, hA⟩ : ∃ A, (⟨frameOf 49 y, []⟩ : Act) = A := ⟨_, rfl⟩
          rw [hA] at v1 hK ⊢
          clear hA hy hp
          simp only [Act.eval] at v1
          go_simp
          exact hK _ _ ⟨trivial, fun _ => rfl, HJ.out.pure (by decide) (by decide)⟩
        · have e1 : y 4 = .int .i64 (k : Int) := hy.out 4 (by decide)
          intro K Q hK
          clear hcl hL
          have v1 := (eval_frame 49 y [] (t := 4) (by decide)).trans e1
          obtain ⟨A, hA⟩ : ∃ A, (⟨frameOf 49 y, []⟩ : Act) = A := ⟨_, rfl⟩
          rw [hA] at v1 hK ⊢
          clear hA hy hp
          simp only [Act.eval] at v1
          go_simp
          exact hK _ _ ⟨trivial, fun _ => rfl, HJ.out.pure (by decide) (by decide)⟩
        · have e1 : y 18 = .slice (some ⟨b, off, none⟩) n c := (hp.out 7 (by decide)).2 (by decide)
          have e2 : y 19 = .int .i64 (k : Int) := (hp.out 8 (by decide)).2 (by decide)
          have hk1 := HKI.out
          intro K Q hK
          clear hcl hL
          have v1 := (eval_frame 49 y [] (t := 18) (by decide)).trans e1
          have v2 := (eval_frame 49 y [] (t := 19) (by decide)).trans e2
          obtain ⟨A, hA⟩ : ∃ A, (⟨frameOf 49 y, []⟩ : Act) = A := ⟨_, rfl⟩
          rw [hA] at v1 v2 hK ⊢
          clear hA hy hp
          simp only [Act.eval] at v1 v2
          go_simp
          first | exact hK _ _ ⟨trivial, fun _ => rfl, HJ.out.pure (by decide) (by decide)⟩ | (rw [if_pos ⟨by omega, by omega⟩]; exact hK _ _ ⟨trivial, fun _ => rfl, HJ.out.pure (by decide) (by decide)⟩)
        · have e1 : y 20 = .pointer (some ⟨b, off + k * 6, none⟩) := (hp.out 9 (by decide)).2 (by decide)
          intro K Q hK
          clear hcl hL
          have v1 := (eval_frame 49 y [] (t := 20) (by decide)).trans e1
          obtain ⟨A, hA⟩ : ∃ A, (⟨frameOf 49 y, []⟩ : Act) = A := ⟨_, rfl⟩
          rw [hA] at v1 hK ⊢
          clear hA hy hp
          simp only [Act.eval] at v1
          go_simp
          exact hK _ _ ⟨trivial, fun _ => rfl, HJ.out.pure (by decide) (by decide)⟩
        · have e1 : y 21 = .pointer (some ⟨b, off + k * 6 + 1, none⟩) := (hp.out 10 (by decide)).2 (by decide)
          have hce := (HX.out _ HP.out.bel).c1
          intro K Q hK
          clear hcl hL
          have v1 := (eval_frame 49 y [] (t := 21) (by decide)).trans e1
          obtain ⟨A, hA⟩ : ∃ A, (⟨frameOf 49 y, []⟩ : Act) = A := ⟨_, rfl⟩
          rw [hA] at v1 hK ⊢
          clear hA hy hp
          simp only [Act.eval] at v1
          go_simp
          exact hK _ _ ⟨trivial, fun _ => rfl, HJ.out.pure (by decide) (by decide)⟩
        · have e1 : y 0 = .slice (some ⟨b, off, none⟩) n c := hy.out 0 (by decide)
          intro K Q hK
          clear hcl hL
          have v1 := (eval_frame 49 y [] (t := 0) (by decide)).trans e1
          obtain ⟨A, hA⟩ : ∃ A, (⟨frameOf 49 y, []⟩ : Act) = A := ⟨_, rfl⟩
          rw [hA] at v1 hK ⊢
          clear hA hy hp
          simp only [Act.eval] at v1
          go_simp
          exact hK _ _ ⟨trivial, fun _ => rfl, HJ.out.pure (by decide) (by decide)⟩
        · have e1 : y 4 = .int .i64 (k : Int) := hy.out 4 (by decide)
          intro K Q hK
          clear hcl hL
          have v1 := (eval_frame 49 y [] (t := 4) (by decide)).trans e1
          obtain ⟨A, hA⟩ : ∃ A, (⟨frameOf 49 y, []⟩ : Act) = A := ⟨_, rfl⟩
          rw [hA] at v1 hK ⊢
          clear hA hy hp
          simp only [Act.eval] at v1
          go_simp
          exact hK _ _ ⟨trivial, fun _ => rfl, HJ.out.pure (by decide) (by decide)⟩
        · have e1 : y 23 = .slice (some ⟨b, off, none⟩) n c := (hp.out 12 (by decide)).2 (by decide)
          have e2 : y 24 = .int .i64 (k : Int) := (hp.out 13 (by decide)).2 (by decide)
          have hk1 := HKI.out
          intro K Q hK
          clear hcl hL
          have v1 := (eval_frame 49 y [] (t := 23) (by decide)).trans e1
          have v2 := (eval_frame 49 y [] (t := 24) (by decide)).trans e2
          obtain ⟨A, hA⟩ : ∃ A, (⟨frameOf 49 y, []⟩ : Act) = A := ⟨_, rfl⟩
          rw [hA] at v1 v2 hK ⊢
          clear hA hy hp
          simp only [Act.eval] at v1 v2
          go_simp
          first | exact hK _ _ ⟨trivial, fun _ => rfl, HJ.out.pure (by decide) (by decide)⟩ | (rw [if_pos ⟨by omega, by omega⟩]; exact hK _ _ ⟨trivial, fun _ => rfl, HJ.out.pure (by decide) (by decide)⟩)
        · have e1 : y 25 = .pointer (some ⟨b, off + k * 6, none⟩) := (hp.out 14 (by decide)).2 (by decide)
          intro K Q hK
          clear hcl hL
          have v1 := (eval_frame 49 y [] (t := 25) (by decide)).trans e1
          obtain ⟨A, hA⟩ : ∃ A, (⟨frameOf 49 y, []⟩ : Act) = A := ⟨_, rfl⟩
          rw [hA] at v1 hK ⊢
          clear hA hy hp
          simp only [Act.eval] at v1
          go_simp
          exact hK _ _ ⟨trivial, fun _ => rfl, HJ.out.pure (by decide) (by decide)⟩
        · have e1 : y 26 = .pointer (some ⟨b, off + k * 6 + 2, none⟩) := (hp.out 15 (by decide)).2 (by decide)
          have hce := (HX.out _ HP.out.bel).c2
          intro K Q hK
          clear hcl hL
          have v1 := (eval_frame 49 y [] (t := 26) (by decide)).trans e1
          obtain ⟨A, hA⟩ : ∃ A, (⟨frameOf 49 y, []⟩ : Act) = A := ⟨_, rfl⟩
          rw [hA] at v1 hK ⊢
          clear hA hy hp
          simp only [Act.eval] at v1
          go_simp
          exact hK _ _ ⟨trivial, fun _ => rfl, HJ.out.pure (by decide) (by decide)⟩
        · have e1 : y 0 = .slice (some ⟨b, off, none⟩) n c := hy.out 0 (by decide)
          intro K Q hK
          clear hcl hL
          have v1 := (eval_frame 49 y [] (t := 0) (by decide)).trans e1
          obtain ⟨A, hA⟩ : ∃ A, (⟨frameOf 49 y, []⟩ : Act) = A := ⟨_, rfl⟩
          rw [hA] at v1 hK ⊢
          clear hA hy hp
          simp only [Act.eval] at v1
          go_simp
          exact hK _ _ ⟨trivial, fun _ => rfl, HJ.out.pure (by decide) (by decide)⟩
        · have e1 : y 4 = .int .i64 (k : Int) := hy.out 4 (by decide)
          intro K Q hK
          clear hcl hL
          have v1 := (eval_frame 49 y [] (t := 4) (by decide)).trans e1
          obtain ⟨A, hA⟩ : ∃ A, (⟨frameOf 49 y, []⟩ : Act) = A := ⟨_, rfl⟩
          rw [hA] at v1 hK ⊢
          clear hA hy hp
          simp only [Act.eval] at v1
          go_simp
          exact hK _ _ ⟨trivial, fun _ => rfl, HJ.out.pure (by decide) (by decide)⟩
        · have e1 : y 28 = .slice (some ⟨b, off, none⟩) n c := (hp.out 17 (by decide)).2 (by decide)
          have e2 : y 29 = .int .i64 (k : Int) := (hp.out 18 (by decide)).2 (by decide)
          have hk1 := HKI.out
          intro K Q hK
          clear hcl hL
          have v1 := (eval_frame 49 y [] (t := 28) (by decide)).trans e1
          have v2 := (eval_frame 49 y [] (t := 29) (by decide)).trans e2
          obtain ⟨A, hA⟩ : ∃ A, (⟨frameOf 49 y, []⟩ : Act) = A := ⟨_, rfl⟩
          rw [hA] at v1 v2 hK ⊢
          clear hA hy hp
          simp only [Act.eval] at v1 v2
          go_simp
          first | exact hK _ _ ⟨trivial, fun _ => rfl, HJ.out.pure (by decide) (by decide)⟩ | (rw [if_pos ⟨by omega, by omega⟩]; exact hK _ _ ⟨trivial, fun _ => rfl, HJ.out.pure (by decide) (by decide)⟩)
        · have e1 : y 30 = .pointer (some ⟨b, off + k * 6, none⟩) := (hp.out 19 (by decide)).2 (by decide)
          intro K Q hK
          clear hcl hL
          have v1 := (eval_frame 49 y [] (t := 30) (by decide)).trans e1
          obtain ⟨A, hA⟩ : ∃ A, (⟨frameOf 49 y, []⟩ : Act) = A := ⟨_, rfl⟩
          rw [hA] at v1 hK ⊢
          clear hA hy hp
          simp only [Act.eval] at v1
          go_simp
          exact hK _ _ ⟨trivial, fun _ => rfl, HJ.out.pure (by decide) (by decide)⟩
        · have e1 : y 31 = .pointer (some ⟨b, off + k * 6 + 3, none⟩) := (hp.out 20 (by decide)).2 (by decide)
          have hce := (HX.out _ HP.out.bel).c3
          intro K Q hK
          clear hcl hL
          have v1 := (eval_frame 49 y [] (t := 31) (by decide)).trans e1
          obtain ⟨A, hA⟩ : ∃ A, (⟨frameOf 49 y, []⟩ : Act) = A := ⟨_, rfl⟩
          rw [hA] at v1 hK ⊢
          clear hA hy hp
          simp only [Act.eval] at v1
          go_simp
          exact hK _ _ ⟨trivial, fun _ => rfl, HJ.out.pure (by decide) (by decide)⟩
        · have e1 : y 0 = .slice (some ⟨b, off, none⟩) n c := hy.out 0 (by decide)
          intro K Q hK
          clear hcl hL
          have v1 := (eval_frame 49 y [] (t := 0) (by decide)).trans e1
          obtain ⟨A, hA⟩ : ∃ A, (⟨frameOf 49 y, []⟩ : Act) = A := ⟨_, rfl⟩
          rw [hA] at v1 hK ⊢
          clear hA hy hp
          simp only [Act.eval] at v1
          go_simp
          exact hK _ _ ⟨trivial, fun _ => rfl, HJ.out.pure (by decide) (by decide)⟩
        · have e1 : y 4 = .int .i64 (k : Int) := hy.out 4 (by decide)
          intro K Q hK
          clear hcl hL
          have v1 := (eval_frame 49 y [] (t := 4) (by decide)).trans e1
          obtain ⟨A, hA⟩ : ∃ A, (⟨frameOf 49 y, []⟩ : Act) = A := ⟨_, rfl⟩
          rw [hA] at v1 hK ⊢
          clear hA hy hp
          simp only [Act.eval] at v1
          go_simp
          exact hK _ _ ⟨trivial, fun _ => rfl, HJ.out.pure (by decide) (by decide)⟩
        · have e1 : y 33 = .slice (some ⟨b, off, none⟩) n c := (hp.out 22 (by decide)).2 (by decide)
          have e2 : y 34 = .int .i64 (k : Int) := (hp.out 23 (by decide)).2 (by decide)
          have hk1 := HKI.out
          intro K Q hK
          clear hcl hL
          have v1 := (eval_frame 49 y [] (t := 33) (by decide)).trans e1
          have v2 := (eval_frame 49 y [] (t := 34) (by decide)).trans e2
          obtain ⟨A, hA⟩ : ∃ A, (⟨frameOf 49 y, []⟩ : Act) = A := ⟨_, rfl⟩
          rw [hA] at v1 v2 hK ⊢
          clear hA hy hp
          simp only [Act.eval] at v1 v2
          go_simp
          first | exact hK _ _ ⟨trivial, fun _ => rfl, HJ.out.pure (by decide) (by decide)⟩ | (rw [if_pos ⟨by omega, by omega⟩]; exact hK _ _ ⟨trivial, fun _ => rfl, HJ.out.pure (by decide) (by decide)⟩)
        · have e1 : y 35 = .pointer (some ⟨b, off + k * 6, none⟩) := (hp.out 24 (by decide)).2 (by decide)
          intro K Q hK
          clear hcl hL
          have v1 := (eval_frame 49 y [] (t := 35) (by decide)).trans e1
          obtain ⟨A, hA⟩ : ∃ A, (⟨frameOf 49 y, []⟩ : Act) = A := ⟨_, rfl⟩
          rw [hA] at v1 hK ⊢
          clear hA hy hp
          simp only [Act.eval] at v1
          go_simp
          exact hK _ _ ⟨trivial, fun _ => rfl, HJ.out.pure (by decide) (by decide)⟩
        · have e1 : y 36 = .pointer (some ⟨b, off + k * 6 + 4, none⟩) := (hp.out 25 (by decide)).2 (by decide)
          have hce := (HX.out _ HP.out.bel).c4
          intro K Q hK
          clear hcl hL
          have v1 := (eval_frame 49 y [] (t := 36) (by decide)).trans e1
          obtain ⟨A, hA⟩ : ∃ A, (⟨frameOf 49 y, []⟩ : Act) = A := ⟨_, rfl⟩
          rw [hA] at v1 hK ⊢
          clear hA hy hp
          simp only [Act.eval] at v1
          go_simp
          exact hK _ _ ⟨trivial, fun _ => rfl, HJ.out.pure (by decide) (by decide)⟩
        · have e1 : y 0 = .slice (some ⟨b, off, none⟩) n c := hy.out 0 (by decide)
          intro K Q hK
          clear hcl hL
          have v1 := (eval_frame 49 y [] (t := 0) (by decide)).trans e1
          obtain ⟨A, hA⟩ : ∃ A, (⟨frameOf 49 y, []⟩ : Act) = A := ⟨_, rfl⟩
          rw [hA] at v1 hK ⊢
          clear hA hy hp
          simp only [Act.eval] at v1
          go_simp
          exact hK _ _ ⟨trivial, fun _ => rfl, HJ.out.pure (by decide) (by decide)⟩
        · have e1 : y 4 = .int .i64 (k : Int) := hy.out 4 (by decide)
          intro K Q hK
          clear hcl hL
          have v1 := (eval_frame 49 y [] (t := 4) (by decide)).trans e1
          obtain ⟨A, hA⟩ : ∃ A, (⟨frameOf 49 y, []⟩ : Act) = A := ⟨_, rfl⟩
          rw [hA] at v1 hK ⊢
          clear hA hy hp
          simp only [Act.eval] at v1
          go_simp
          exact hK _ _ ⟨trivial, fun _ => rfl, HJ.out.pure (by decide) (by decide)⟩
        · have e1 : y 38 = .slice (some ⟨b, off, none⟩) n c := (hp.out 27 (by decide)).2 (by decide)
          have e2 : y 39 = .int .i64 (k : Int) := (hp.out 28 (by decide)).2 (by decide)
          have hk1 := HKI.out
          intro K Q hK
          clear hcl hL
          have v1 := (eval_frame 49 y [] (t := 38) (by decide)).trans e1
          have v2 := (eval_frame 49 y [] (t := 39) (by decide)).trans e2
          obtain ⟨A, hA⟩ : ∃ A, (⟨frameOf 49 y, []⟩ : Act) = A := ⟨_, rfl⟩
          rw [hA] at v1 v2 hK ⊢
          clear hA hy hp
          simp only [Act.eval] at v1 v2
          go_simp
          first | exact hK _ _ ⟨trivial, fun _ => rfl, HJ.out.pure (by decide) (by decide)⟩ | (rw [if_pos ⟨by omega, by omega⟩]; exact hK _ _ ⟨trivial, fun _ => rfl, HJ.out.pure (by decide) (by decide)⟩)
        · have e1 : y 40 = .pointer (some ⟨b, off + k * 6, none⟩) := (hp.out 29 (by decide)).2 (by decide)
          intro K Q hK
          clear hcl hL
          have v1 := (eval_frame 49 y [] (t := 40) (by decide)).trans e1
          obtain ⟨A, hA⟩ : ∃ A, (⟨frameOf 49 y, []⟩ : Act) = A := ⟨_, rfl⟩
          rw [hA] at v1 hK ⊢
          clear hA hy hp
          simp only [Act.eval] at v1
          go_simp
          exact hK _ _ ⟨trivial, fun _ => rfl, HJ.out.pure (by decide) (by decide)⟩
        · have e1 : y 41 = .pointer (some ⟨b, off + k * 6 + 5, none⟩) := (hp.out 30 (by decide)).2 (by decide)
          have hce := (HX.out _ HP.out.bel).c5
          intro K Q hK
          clear hcl hL
          have v1 := (eval_frame 49 y [] (t := 41) (by decide)).trans e1
          obtain ⟨A, hA⟩ : ∃ A, (⟨frameOf 49 y, []⟩ : Act) = A := ⟨_, rfl⟩
          rw [hA] at v1 hK ⊢
          clear hA hy hp
          simp only [Act.eval] at v1
          go_simp
          exact hK _ _ ⟨trivial, fun _ => rfl, HJ.out.pure (by decide) (by decide)⟩
        · have e1 : y 42 = .slice (some ⟨bp, 4, none⟩) 256 256 := (hp.out 31 (by decide)).2 (by decide)
          have hcv := HCV.out _ HP.out.bel
          intro K Q hK
          clear hcl hL
          have v1 := (eval_frame 49 y [] (t := 42) (by decide)).trans e1
          obtain ⟨A, hA⟩ : ∃ A, (⟨frameOf 49 y, []⟩ : Act) = A := ⟨_, rfl⟩
          rw [hA] at v1 hK ⊢
          clear hA hy hp
          simp only [Act.eval] at v1
          go_simp
          exact hK _ _ ⟨trivial, fun _ => rfl, HJ.out.pure (by decide) (by decide)⟩
        · have e1 : y 17 = .int .u64 p.a := (hp.out 6 (by decide)).2 (by decide)
          have e2 : y 22 = .int .i64 p.prot := (hp.out 11 (by decide)).2 (by decide)
          have e3 : y 27 = .bool p.dirty := (hp.out 16 (by decide)).2 (by decide)
          have e4 : y 32 = .string p.file := (hp.out 21 (by decide)).2 (by decide)
          have e5 : y 37 = .int .u64 p.off := (hp.out 26 (by decide)).2 (by decide)
          have e6 : y 43 = .string (strOfNums p.b) := (hp.out 32 (by decide)).2 (by decide)
          intro K Q hK
          clear hcl hL
          have v1 := (eval_frame 49 y [] (t := 17) (by decide)).trans e1
          have v2 := (eval_frame 49 y [] (t := 22) (by decide)).trans e2
          have v3 := (eval_frame 49 y [] (t := 27) (by decide)).trans e3
          have v4 := (eval_frame 49 y [] (t := 32) (by decide)).trans e4
          have v5 := (eval_frame 49 y [] (t := 37) (by decide)).trans e5
          have v6 := (eval_frame 49 y [] (t := 43) (by decide)).trans e6
          obtain ⟨A, hA⟩ : ∃ A, (⟨frameOf 49 y, []⟩ : Act) = A := ⟨_, rfl⟩
          rw [hA] at v1 v2 v3 v4 v5 v6 hK ⊢
          clear hA hy hp
          refine wp_build_eq 66 _ rfl #[.int .u64 p.a, .int .i64 p.prot, .bool p.dirty, .string p.file, .int .u64 p.off, .string (strOfNums p.b)] ?_ ?_
          · simp only [List.map_toArray, List.map_cons, List.map_nil]
            rw [v1, v2, v3, v4, v5, v6]
            rfl
          exact hK _ _ ⟨trivial, fun _ => rfl, HJ.out.pure (by decide) (by decide)⟩
        · have e1 : y 44 = .agg #[.int .u64 p.a, .int .i64 p.prot, .bool p.dirty, .string p.file, .int .u64 p.off, .string (strOfNums p.b)] := (hp.out 33 (by decide)).2 (by decide)
          have hN34 : L 34 = false := hL
          have hN35 : L 35 = false := by
            cases h : L 35 with
            | false => rfl
            | true => have := (hcl 35 _ rfl h 34 (by decide)); rw [hL] at this; cases this
          have hN37 : L 37 = false := by
            cases h : L 37 with
            | false => rfl
            | true => have := (hcl 35 _ rfl (hcl 37 _ rfl h 35 (by decide)) 34 (by decide)); rw [hL] at this; cases this
          obtain rfl := HP.out.a hN34
          have hkk := HP.out.k hN37
          intro K Q hK
          clear hcl hL
          have v1 := (eval_frame 49 y [] (t := 44) (by decide)).trans e1
          obtain ⟨A, hA⟩ : ∃ A, (⟨frameOf 49 y, []⟩ : Act) = A := ⟨_, rfl⟩
          rw [hA] at v1 hK ⊢
          clear hA hy hp
          simp only [Act.eval] at v1
          rw [Array.getD_eq_getD_getElem?] at v1
          go_simp
          rw [← HW1.out]
          exact hK _ _ ⟨trivial, fun _ => rfl, JA.step fun L' y' h1 h2 h3 h4 => ⟨HBW1.out, (fun h => by rw [h2 (by decide)] at h; cases h), fun _ _ => rfl, (fun h => by rw [h1 35 (by decide) (by decide), hN35] at h; cases h), (fun h => by rw [h1 37 (by decide) (by decide), hN37] at h; cases h), fun _ => HKW1.out⟩⟩
        · have e1 : y 12 = v := (hp.out 1 (by decide)).2 (by decide)
          have e2 : y 45 = .slice (some ⟨W0.heap.size, 0, none⟩) 1 1 := (hp.out 34 (by decide)).2 (by decide)
          have hN35 : L 35 = false := hL
          have hN37 : L 37 = false := by
            cases h : L 37 with
            | false => rfl
            | true => have := (hcl 37 _ rfl h 35 (by decide)); rw [hL] at this; cases this
          have hL34 : L 34 = true := (hp.out 34 (by decide)).1
          obtain rfl := HP.out.b hL34 hN35
          intro K Q hK
          clear hcl hL
          have v1 := (eval_frame 49 y [] (t := 12) (by decide)).trans e1
          have v2 := (eval_frame 49 y [] (t := 45) (by decide)).trans e2
          obtain ⟨A, hA⟩ : ∃ A, (⟨frameOf 49 y, []⟩ : Act) = A := ⟨_, rfl⟩
          rw [hA] at v1 v2 hK ⊢
          clear hA hy hp
          exact step_append 32 (.tmp 12) (.tmp 45) rfl _ _ v1 v2 HRUN.out ⟨trivial, fun _ => trivial, JA.step fun L' y' h1 h2 h3 h4 => ⟨HBW2.out, (fun h => by rw [h1 34 (by decide) (by decide), hL34] at h; cases h), (fun _ h => by rw [h2 (by decide)] at h; cases h), fun _ _ => ⟨rfl, h4 (by decide)⟩, (fun h => by rw [h1 37 (by decide) (by decide), hN37] at h; cases h), fun _ => HKW2.out⟩⟩ K Q hK
        · have e1 : y 3 = .pointer (some ⟨(w.heap.size + 1), 0, none⟩) := hy.out 3 (by decide)
          intro K Q hK
          clear hcl hL
          have v1 := (eval_frame 49 y [] (t := 3) (by decide)).trans e1
          obtain ⟨A, hA⟩ : ∃ A, (⟨frameOf 49 y, []⟩ : Act) = A := ⟨_, rfl⟩
          rw [hA] at v1 hK ⊢
          clear hA hy hp
          simp only [Act.eval] at v1
          go_simp
          exact hK _ _ ⟨trivial, fun _ => rfl, HJ.out.pure (by decide) (by decide)⟩
        · have e1 : y 47 = .pointer (some ⟨(w.heap.size + 1), 0, none⟩) := (hp.out 36 (by decide)).2 (by decide)
          have hL35 : L 35 = true := (hp.out 35 (by decide)).1
          obtain ⟨-, e2⟩ := HP.out.c hL35 hL
          have hN37 : L 37 = false := hL
          have hL34 : L 34 = true := hcl 35 _ rfl hL35 34 (by decide)
          obtain rfl := (HP.out.c hL35 hL).1
          obtain ⟨q0, fz⟩ := HKW2.out
          intro K Q hK
          clear hcl hL
          have v1 := (eval_frame 49 y [] (t := 47) (by decide)).trans e1
          have v2 := (eval_frame 49 y [] (t := 46) (by decide)).trans e2
          obtain ⟨A, hA⟩ : ∃ A, (⟨frameOf 49 y, []⟩ : Act) = A := ⟨_, rfl⟩
          rw [hA] at v1 v2 hK ⊢
          clear hA hy hp
          simp only [Act.eval] at v1 v2
          go_simp
          exact hK undef _ ⟨trivial, fun h => absurd h (by decide), JA.step fun L' y' h1 h2 h3 h4 => ⟨HBW3.out, (fun h => by rw [h1 34 (by decide) (by decide), hL34] at h; cases h), (fun _ h => by rw [h1 35 (by decide) (by decide), hL35] at h; cases h), (fun _ h => by rw [h2 (by decide)] at h; cases h), (fun _ => rfl), (fun h => by rw [h2 (by decide)] at h; cases h)⟩⟩
    · have hlti : ¬ (k : Int) < n := by omega
      obtain rfl : k = n := by omega
      obtain ⟨va, vc, rfl⟩ := own_slp HO.out
      have y0 := HK2.out.cell 0
      have q9 : wr.cell? ⟨w.heap.size, 0, none⟩ = some (.slice none 0 0) := HK1.out.cell 0
      have f9 : wr.frozen? ⟨w.heap.size, 0, none⟩ = false := HK1.out.frozen 0
      have ee : (wr.setCell ⟨w.heap.size, 0, none⟩ (.slice va k vc)).cell? ⟨w.heap.size, 0, none⟩ = some (.slice va k vc) := World.cell?_setCell_same' _ _ _ (by rw [q9]; rfl)
      have ho := HO.out
      rw [List.take_of_length_le (by rw [HML.out]; exact Nat.le_refl _)] at ho
      have hlc : k ≤ vc ∧ (vc : Int) ≤ 9223372036854775807 := by
        rcases ho.2 with ⟨e0, e1⟩ | ⟨g, cap, cur, hv, _, hg, h1, h2, _⟩
        · injection e0 with _ _ e3
          subst e3
          exact ⟨by omega, by omega⟩
        · injection hv with _ _ e3
          subst e3
          exact ⟨by omega, by unfold maxLen at h2; omega⟩
      have ho2 : (wr.setCell ⟨w.heap.size, 0, none⟩ (.slice va k vc)).ownsRow w1.heap.size 66 6 (.slice va k vc) M.length (Rp.flat (rps M)) := by
        have h3 := ownsRow_setCell_below ho (a := ⟨w.heap.size, 0, none⟩) (by show w.heap.size < w1.heap.size; have := HZ1.out; omega) (.slice va k vc)
        rw [HML.out] at h3 ⊢
        exact h3
      have HRA : Hid (RAt (wr.setCell ⟨w.heap.size, 0, none⟩ (.slice va k vc)) (wr.setCell ⟨w.heap.size, 0, none⟩ (.slice va k vc)).heap.size va k vc M) := Lib.hid ⟨Rp.own_of HOK.out ho2 HML.out, hlc.1, hlc.2, HSO.out, HOK.out, by rw [← HML.out]; exact hn⟩
      have HBE : Hid (Below w.heap.size w (wr.setCell ⟨w.heap.size, 0, none⟩ (.slice va k vc))) := Lib.hid (HBW.out.setCell (p := ⟨w.heap.size, 0, none⟩) (Nat.le_refl _) _)
      clear ho ho2 hlc
      go_wp2
      refine bodyPost_ret (v := .agg #[.slice va k vc]) (by simp [results, Try.results9, go_sem, ee]) rfl ?_
      exact ⟨va, k, vc, rfl, HRA.out, HBE.out⟩
end Go.Proofs.Ytahjgbmhleiocaa
