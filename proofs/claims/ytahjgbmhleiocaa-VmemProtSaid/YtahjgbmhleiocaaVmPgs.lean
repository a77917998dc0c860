/-
  What is proved here: Pages of package vmem, of at most twelve pages.
  Conditions: none but that they are at most twelve.
-/
import Derived.Test.YtahjgbmhleiocaaVmSort
import Derived.Test.YtahjgbmhleiocaaVmCopy
import Derived.Test.YtahjgbmhleiocaaVpWords
import Derived.Test.YtahjgbmhleiocaaVmRw
import Derived.Test.YtahjgbmhleiocaaFRun
import Derived.Test.YtahjgbmhleiocaaAppF
import Derived.MapKept
namespace Go.Proofs.Ytahjgbmhleiocaa
open Go.RowKit Go.WideMaps Go.Maps
set_option linter.unusedVariables false
set_option linter.unusedSimpArgs false

/-- A page as it is told: its bytes lie in a box of their own. -/
def mkV (p : Pg) (b : Nat) : Vp := ⟨p.a, p.prot, p.dirty, p.file, p.off, ⟨some ⟨b, 4, none⟩, 256, 256, p.b⟩⟩
def vps (M : List Pg) (bl : List Nat) : List Vp := List.zipWith mkV M bl
theorem vps_len {M : List Pg} {bl : List Nat} (h : bl.length = M.length) : (vps M bl).length = M.length := by unfold vps; rw [List.length_zipWith]; omega
theorem vps_snoc {M : List Pg} {bl : List Nat} {k b : Nat} (hk : k < M.length) (h : bl.length = k) : vps (M.take (k + 1)) (bl ++ [b]) = vps (M.take k) bl ++ [mkV (M.getD k pg0) b] := by
  unfold vps
  rw [List.take_succ_eq_append_getElem hk, List.zipWith_append (by rw [List.length_take]; omega), List.getD_eq_getElem?_getD, List.getElem?_eq_getElem hk]; rfl
theorem vps_at {M : List Pg} {bl : List Nat} (h : bl.length = M.length) {i : Nat} (hi : i < M.length) : (vps M bl).getD i Vp.zero = mkV (M.getD i pg0) (bl.getD i 0) := by
  unfold vps
  rw [List.getD_eq_getElem?_getD, List.getElem?_zipWith, List.getElem?_eq_getElem hi, List.getElem?_eq_getElem (by omega), List.getD_eq_getElem?_getD, List.getElem?_eq_getElem hi, List.getD_eq_getElem?_getD, List.getElem?_eq_getElem (by omega)]; rfl
theorem fr45 (y : Nat → Value) : frameOf 45 y = #[y 0, y 1, y 2, y 3, y 4, y 5, y 6, y 7, y 8, y 9, y 10, y 11, y 12, y 13, y 14, y 15, y 16, y 17, y 18, y 19, y 20, y 21, y 22, y 23, y 24, y 25, y 26, y 27, y 28, y 29, y 30, y 31, y 32, y 33, y 34, y 35, y 36, y 37, y 38, y 39, y 40, y 41, y 42, y 43, y 44] := rfl
theorem one_vp (s : Vp) : ∀ u ∈ [Value.int .u64 s.a, .int .i64 s.pr, .bool s.di, .string s.fi, .int .u64 s.of, .slice s.bb.a s.bb.n s.bb.c], u.oneCell' = true := by
  intro u hu
  simp only [List.mem_cons, List.not_mem_nil, or_false] at hu
  rcases hu with rfl | rfl | rfl | rfl | rfl | rfl <;> rfl
theorem info_vp : (Try.prog.info? 27).map (fun i => (i.zero, i.size, i.bytes)) = some (some (.agg #[.int .u64 0, .int .i64 0, .bool false, .string .empty, .int .u64 0, .slice none 0 0]), 6, 72) := by kernel_rfl
theorem slice_all (b i : Nat) (wx : World) : (Instr.sliceAt 61 (.pointer (some ⟨b, i, none⟩)) none none none).run Try.prog wx = .ok (.slice (some ⟨b, i, none⟩) 256 256) wx := by
  have hu : Try.prog.underlying 61 = some (.array 256 5) := Try.underlying61
  have hz : ∀ w, (sizeOf 5).run Try.prog w = .ok 1 w := fun w => by kernel_rfl
  simp [Instr.sliceAt, run_underlying hu, Instr.sureAddr, Instr.sliceBounds, run_sliceBound, hz, Sem.run_bind, Sem.run_pure, Result.andThen, Addr.add]
theorem row_not_page {w : World} {base k : Nat} {v : Value} {xs : List Value} (h : w.ownsRow base 27 6 v k xs) {j : Nat} {C : Array Value} (hB : Blk w j C 63) : ¬ some j = v.ownBlock := fun e => by
  rcases h.2 with ⟨hv, _⟩ | ⟨g, cap, cur, hv, _, hb, _⟩
  · rw [hv] at e; cases e
  · rw [hv] at e
    have e2 : j = g := by injection e
    subst e2
    unfold Blk at hB
    rw [hB] at hb
    injection hb with hb
    injection hb with _ hb _
    exact absurd hb (by decide)
theorem vp_new (w : World) (cs : List Value) (t : TypeId) (n : Nat) (hn : cs.length = n) : ∀ j u, cs[j]? = some u → ((w.alloc (.cells cs.toArray t)).drew).cell? ((⟨w.heap.size, 0, none⟩ : Addr).add j) = some u := by
  intro j u hu
  rw [add_none, Nat.zero_add]
  show (w.alloc (.cells cs.toArray t)).cell? ⟨w.heap.size, j, none⟩ = _
  rw [(Blk.new w cs.toArray t).cell j]
  simpa using hu
def PagesPost (w : World) (M : List Pg) (r : Ending) (w' : World) : Prop :=
  ∃ v bl, r = .returned v ∧ bl.length = M.length ∧ w'.ownsRow w.heap.size 27 6 v M.length (Vp.flat (vps M bl)) ∧ (∀ k, k < M.length → w.heap.size ≤ bl.getD k 0 ∧ Blk w' (bl.getD k 0) (pgC (M.getD k pg0)) 63) ∧ Below w.heap.size w w'
theorem fat_at {bl : List Nat} {k b j : Nat} (h : bl.length = k) (hj : j < k) : (bl ++ [b]).getD j 0 = bl.getD j 0 := by
  rw [List.getD_eq_getElem?_getD, List.getElem?_append_left (by omega), ← List.getD_eq_getElem?_getD]
theorem fat_new {bl : List Nat} {k b : Nat} (h : bl.length = k) : (bl ++ [b]).getD k 0 = b := by
  rw [List.getD_eq_getElem?_getD, List.getElem?_append_right (by omega), h]; simp
theorem addr_at {M : List Pg} {k : Nat} (h : k < M.length) : ((M.map (·.a)).map encU)[k]? = some (.int .u64 (M.getD k pg0).a) := by
  rw [List.getElem?_map, List.getElem?_map, List.getElem?_eq_getElem h, List.getD_eq_getElem?_getD, List.getElem?_eq_getElem h]; rfl
set_option maxRecDepth 100000 in
set_option maxHeartbeats 12800000 in
theorem Pages_ok {w : World} {S : VS} {M : List Pg} {c : Nat} (h : VAt w S M c) (h12 : M.length ≤ 12) :
    Calls Try.prog 11 #[ptrV S.g] w (PagesPost w M) := by
  obtain ⟨i0, hi, hz0, hz1, hz2⟩ := info_parts info_vp
  have HI := Lib.hid hi
  have HZ0 := Lib.hid hz0
  have HZ1 := Lib.hid hz1
  have HZ2 := Lib.hid hz2
  have HH := Lib.hid h
  have hcs := cmp_sp S.g w
  have HK := Lib.hid (keys_ok S.m w)
  have hba : Below w.heap.size w (w.alloc (.cells #[.map S.m] 72)) := (Below.refl _ _).alloc (Nat.le_refl _) _
  have HBA := Lib.hid hba
  have HS := Lib.hid (sorted_ok w.heap.size (w.alloc (.cells #[.map S.m] 72)) (by simp) ((Blk.new w #[.map S.m] 72).cell 0) (h.below hba) h12)
  have c0 : w.cell? ⟨S.g, 0, none⟩ = some (.map S.m) := h.sp.cell 0
  have H12 := Lib.hid h12
  obtain ⟨n, hn⟩ : ∃ n, M.length = n := ⟨_, rfl⟩
  have HN := Lib.hid hn
  clear h hba hi hz0 hz1 hz2 h12 hn
  unfold ptrV at *
  go_enter Try.func11, Try.ntmps11
  go_wp2_with fail
  refine HK.out.mono ?_
  rintro r0 w0 ⟨rfl, rfl⟩
  go_wp2_with fail
  refine HS.out.mono ?_
  rintro r1 w1 ⟨v0, rfl, hrow0, hb1⟩
  have hbw1 : Below w.heap.size w w1 := HBA.out.trans (hb1.mono HBA.out.size)
  have HB1 := Lib.hid hbw1
  have HR0 := Lib.hid hrow0
  have HA1 := Lib.hid (HH.out.below hbw1)
  obtain ⟨a0, cap0, hv0⟩ := own_slice hrow0
  have HV0 := Lib.hid hv0
  rw [List.length_map, HN.out] at hv0
  rw [hv0]
  have hn12 : n ≤ 12 := by rw [← HN.out]; exact H12.out
  clear hrow0 hb1 hbw1 HK HS hv0 c0
  go_wp2
  go_loopw [3, 5, 6, 16] (fun v _ _ i wr => ∃ (k : Nat) (bl : List Nat), k ≤ n ∧ i = .int .i64 k ∧ Hid (bl.length = k) ∧ Hid (wr.ownsRow w1.heap.size 27 6 v k (Vp.flat (vps (M.take k) bl))) ∧ Hid (∀ j, j < k → w1.heap.size ≤ bl.getD j 0 ∧ Blk wr (bl.getD j 0) (pgC (M.getD j pg0)) 63) ∧ Hid (Below w1.heap.size w1 wr)) (fun _ _ _ i _ => n - (intOf i).toNat)
  case atStart => exact ⟨0, [], Nat.zero_le _, rfl, Lib.hid rfl, Lib.hid (World.ownsRow_nil _ _ _ _), Lib.hid (fun j hj => absurd hj (by omega)), Lib.hid (Below.refl _ _)⟩
  case round =>
    obtain ⟨k, bl, hk, rfl, HBL, HROW, HBK, HB⟩ := hrel
    by_cases hlt : k < n
    · have hlti : (k : Int) < n := by omega
      have hkM : k < M.length := by rw [HN.out]; exact hlt
      have hAT := HA1.out.below HB.out
      have hrowr := own_below HR0.out HB.out
      obtain ⟨g0, cc, hve, hg0⟩ := own_some hrowr (by rw [List.length_map]; omega)
      rw [List.length_map, HN.out] at hve
      have hvq := HV0.out
      rw [List.length_map, HN.out] at hvq
      rw [hvq] at hve
      injection hve with e1 _ e3
      subst e1
      subst e3
      have q0 : wr.cell? ⟨g0, k, none⟩ = some (.int .u64 (M.getD k pg0).a) := by
        have h1 := (own_below HR0.out HB.out)
        have h2 := HV0.out
        rw [h2] at h1
        have := h1.cellAt k (by rw [List.length_map]; omega)
        rw [this]
        exact addr_at hkM
      obtain ⟨p, hp⟩ : ∃ p, M.getD k pg0 = p := ⟨_, rfl⟩
      have hpm : p ∈ M := by rw [← hp]; exact pgs_mem hkM
      have hok := HH.out.ok p hpm
      have hfp := findP_of HH.out.nd hpm
      rw [hp] at q0
      have hlook := hAT.mp.look (x := p.a) (by have := hok.lt; omega)
      rw [hfp] at hlook
      have HBP : Hid (wr.heap[S.pb p.a]? = some (.cells (pgC p) 63 (0, 0))) := Lib.hid (hAT.pg p hpm)
      have HSZ := Lib.hid (pg_info hok.len)
      have HONE := Lib.hid (pgC_one p)
      have HNB : Hid ((wr.alloc (.cells Try.zeroCells63 63)).heap[wr.heap.size]? = some (.cells Try.zeroCells63 63 (0, 0))) := Lib.hid (Blk.new wr _ _)
      have HZS : Hid (Try.zeroCells63.size = (pgC p).size) := Lib.hid (by rw [zero_size, pgC_size, hok.len])
      have HP := Lib.hid hp
      have HOK := Lib.hid hok
      have c0 : wr.cell? ⟨S.g, 0, none⟩ = some (.map S.m) := hAT.sp.cell 0
      have HKM := Lib.hid hkM
      unfold pageP at hlook
      simp only at hlook
      clear hAT hrowr hvq hp hpm hfp hok hkM
      go_wp2_with (first
        | (refine wpList_load_row rfl 63 _ rfl (S.pb p.a) rfl _ _ (0, 0) _ HBP.out Try.underlying63 rfl HSZ.out ?_)
        | (refine wpList_alloc_eq rfl 63 rfl Try.zeroCells63 zero_info ?_)
        | (refine wpList_store_row rfl 63 _ _ rfl wr.heap.size (pgC p) rfl rfl _ _ HNB.out HSZ.out HZS.out HONE.out ?_; rw [alloc_setRow]))
      obtain ⟨wq, hwq⟩ : ∃ wq, wq = wr.alloc (.cells (pgC p) 63) := ⟨_, rfl⟩
      rw [← hwq]
      have hBB : Blk wq wr.heap.size (pgC p) 63 := by rw [hwq]; exact Blk.new _ _ _
      have hzq : wq.heap.size = wr.heap.size + 1 := by rw [hwq]; simp
      have hgq : wr.grownBy wq none := by rw [hwq]; exact World.grownBy_alloc _ _ _
      have hownq := World.ownsRow.alloc HROW.out (.cells (pgC p) 63)
      rw [← hwq] at hownq
      obtain ⟨la, lc, hle, -, -⟩ := Vp.own_slice hownq
      subst hle
      have HOC := Lib.hid (one_vp (mkV p wr.heap.size))
      unfold mkV at HOC
      simp only at HOC
      have hzw := HB.out.size
      obtain ⟨W1, hW1⟩ : ∃ W1, W1 = (wq.alloc (.cells #[.int .u64 p.a, .int .i64 p.prot, .bool p.dirty, .string p.file, .int .u64 p.off, .slice (some ⟨wr.heap.size, 4, none⟩) 256 256] 27)).drew := ⟨_, rfl⟩
      have hsW1 : wq.heap.size ≤ W1.heap.size := by rw [hW1]; show wq.heap.size ≤ (wq.alloc _).heap.size; rw [World.size_alloc]; omega
      obtain ⟨v', W2, hrun, hown2, hg2, -⟩ := run_append_own (P := Try.prog) W1 w1.heap.size 22 22 27 i0 _ 6 72 Try.underlying22 HI.out HZ0.out HZ1.out HZ2.out rfl (by decide) _ k _ (by rw [hW1]; exact (World.ownsRow.alloc hownq _)) ⟨wq.heap.size, 0, none⟩ 1 1 [.int .u64 p.a, .int .i64 p.prot, .bool p.dirty, .string p.file, .int .u64 p.off, .slice (some ⟨wr.heap.size, 4, none⟩) 256 256] rfl (by rw [hW1]; exact vp_new wq _ _ _ rfl) HOC.out (by unfold maxLen; omega) (by omega) (by omega)
      have HRUN := Lib.hid hrun
      have hnb : ∀ j C, Blk wq j C 63 → some j ≠ (Value.slice la k lc).ownBlock := fun j C hB e => row_not_page hownq hB e
      have hB1 : Blk W1 wr.heap.size (pgC p) 63 := by rw [hW1]; exact hBB.alloc _
      have hB2 : Blk W2 wr.heap.size (pgC p) 63 := hB1.turn hg2 (hnb _ _ hBB)
      have HBW : Hid (∀ L x, J2 13 14 wq.drew W1 W2 L x → Blk x wr.heap.size (pgC p) 63) := Lib.hid (fun L x h => h.all (p := fun x => Blk x wr.heap.size (pgC p) 63) hBB hB1 hB2)
      have hpg := pg_cells hBB HOK.out.len
      have HC1 : Hid (∀ w', Blk w' wr.heap.size (pgC p) 63 → w'.cell? ⟨wr.heap.size, 0, none⟩ = some (.int .i64 p.prot)) := Lib.hid (fun w' h => (pg_cells h HOK.out.len).1)
      have HC2 : Hid (∀ w', Blk w' wr.heap.size (pgC p) 63 → w'.cell? ⟨wr.heap.size, 1, none⟩ = some (.bool p.dirty)) := Lib.hid (fun w' h => (pg_cells h HOK.out.len).2.1)
      have HC3 : Hid (∀ w', Blk w' wr.heap.size (pgC p) 63 → w'.cell? ⟨wr.heap.size, 2, none⟩ = some (.string p.file)) := Lib.hid (fun w' h => (pg_cells h HOK.out.len).2.2.1)
      have HC4 : Hid (∀ w', Blk w' wr.heap.size (pgC p) 63 → w'.cell? ⟨wr.heap.size, 3, none⟩ = some (.int .u64 p.off)) := Lib.hid (fun w' h => (pg_cells h HOK.out.len).2.2.2.1)
      have HO2 : Hid (W2.ownsRow w1.heap.size 27 6 v' (k + 1) (Vp.flat (vps (M.take (k + 1)) (bl ++ [wr.heap.size])))) := Lib.hid (by
        rw [vps_snoc HKM.out HBL.out, HP.out, Vp.flat_snoc]; exact hown2)
      have HBK2 : Hid (∀ j, j < k + 1 → w1.heap.size ≤ (bl ++ [wr.heap.size]).getD j 0 ∧ Blk W2 ((bl ++ [wr.heap.size]).getD j 0) (pgC (M.getD j pg0)) 63) := Lib.hid (fun j hj => by
        by_cases e : j = k
        · subst e
          rw [fat_new HBL.out, HP.out]
          exact ⟨hzw, hB2⟩
        · rw [fat_at HBL.out (by omega)]
          obtain ⟨h1, h2⟩ := HBK.out j (by omega)
          have h3 : Blk wq (bl.getD j 0) (pgC (M.getD j pg0)) 63 := by rw [hwq]; exact h2.alloc _
          have h4 : Blk W1 (bl.getD j 0) (pgC (M.getD j pg0)) 63 := by rw [hW1]; exact h3.alloc _
          exact ⟨h1, h4.turn hg2 (hnb _ _ h3)⟩)
      have HBL2 : Hid ((bl ++ [wr.heap.size]).length = k + 1) := Lib.hid (by rw [List.length_append, HBL.out]; rfl)
      have HB2 : Hid (Below w1.heap.size w1 W2) := Lib.hid (by
        have h1 : Below w1.heap.size w1 wq := HB.out.grown hgq HB.out.size (fun _ h => by cases h)
        have h2 : Below w1.heap.size w1 W1 := by rw [hW1]; exact (h1.alloc (by omega) _).drew
        exact h2.grown hg2 (by omega) (fun q e => (hownq.lt q e).1))
      have HW1 := Lib.hid hW1
      have hsl := fun wx => slice_all wr.heap.size 4 wx
      have HSL := Lib.hid hsl
      clear hrun hown2 hg2 hB1 hB2 hW1 hownq hBB hnb hpg hwq hgq hsl q0 hlook c0 hsW1 hzq
      go_wp2_with fail
      refine wp_region_run (by kernel_rfl) 45 rfl [28, 29, 30, 31, 32, 33, 34, 35, 36, 37, 38, 39, 40, 41, 42, 3] [.slice la k lc, .int .u64 p.a, .pointer (some ⟨wr.heap.size, 0, none⟩), .int .i64 p.prot, .pointer (some ⟨wr.heap.size, 1, none⟩), .bool p.dirty, .pointer (some ⟨wr.heap.size, 2, none⟩), .string p.file, .pointer (some ⟨wr.heap.size, 3, none⟩), .int .u64 p.off, .pointer (some ⟨wr.heap.size, 4, none⟩), .slice (some ⟨wr.heap.size, 4, none⟩) 256 256, .agg #[.int .u64 p.a, .int .i64 p.prot, .bool p.dirty, .string p.file, .int .u64 p.off, .slice (some ⟨wr.heap.size, 4, none⟩) 256 256], .slice (some ⟨wq.heap.size, 0, none⟩) 1 1, v', v'] (J2 13 14 wq.drew W1 W2) ?hj (by kernel_rfl) ?start ?steps ?fin
      case hj => exact J2.congr (by decide) (by decide)
      case start => exact rfl
      case fin =>
        intro L w3 hJ hall
        obtain rfl := hJ.done (hall 14 (by decide))
        clear hJ hall
        simp only [putAll, List.set_cons_succ, List.set_cons_zero, Nat.reduceAdd, List.getD_cons_succ, List.getD_cons_zero]
        go_wp2
        go_roundw
        case rel => exact ⟨k + 1, _, by omega, by go_num, HBL2, HO2, HBK2, HB2⟩
        case measure => (simp [intOf] <;> omega)
      case steps =>
        refine ⟨?_, ?_, ?_, ?_, ?_, ?_, ?_, ?_, ?_, ?_, ?_, ?_, ?_, ?_, ?_, ?_, trivial⟩
        all_goals intro L y w3 hJ hL hy0 hp0 hcl hun
        all_goals have hy := Lib.hid hy0
        all_goals have hp := Lib.hid hp0
        all_goals have hb3 := Lib.hid (HBW.out _ _ hJ)
        all_goals clear hy0 hp0
        · have hLl : L 15 = false := by
            cases h : L 15 with
            | false => rfl
            | true => have := hcl 15 _ rfl h 0 (by decide); rw [hL] at this; cases this
          exact step_move (.tmp 3) (.inl rfl) ⟨fun _ => (eval_frame 45 y _ (by decide)).trans (hun 15 (by decide) hLl (by decide)), hJ.pure (by decide) (by decide)⟩
        · have e1 : y 5 = .int .u64 p.a := hy.out 5 (by decide)
          have hJ3 := Lib.hid (hJ.pure (show (13 : Nat) ≠ 1 by decide) (show (14 : Nat) ≠ 1 by decide))
          intro K Q hK
          simp only [fr45] at hK ⊢
          rw [e1] at hK ⊢
          clear hcl hun hJ
          go_simp
          exact hK _ _ ⟨fun _ => rfl, hJ3.out⟩
        · have e1 : y 6 = .pointer (some ⟨wr.heap.size, 0, none⟩) := hy.out 6 (by decide)
          have hJ3 := Lib.hid (hJ.pure (show (13 : Nat) ≠ 2 by decide) (show (14 : Nat) ≠ 2 by decide))
          intro K Q hK
          simp only [fr45] at hK ⊢
          rw [e1] at hK ⊢
          clear hcl hun hJ
          go_simp
          exact hK _ _ ⟨fun _ => rfl, hJ3.out⟩
        · have e1 : y 30 = .pointer (some ⟨wr.heap.size, 0, none⟩) := (hp.out 2 (by decide)).2 (by decide)
          have hJ3 := Lib.hid (hJ.pure (show (13 : Nat) ≠ 3 by decide) (show (14 : Nat) ≠ 3 by decide))
          have hce := HC1.out _ hb3.out
          intro K Q hK
          simp only [fr45] at hK ⊢
          rw [e1] at hK ⊢
          clear hcl hun hJ
          go_simp
          exact hK _ _ ⟨fun _ => rfl, hJ3.out⟩
        · have e1 : y 6 = .pointer (some ⟨wr.heap.size, 0, none⟩) := hy.out 6 (by decide)
          have hJ3 := Lib.hid (hJ.pure (show (13 : Nat) ≠ 4 by decide) (show (14 : Nat) ≠ 4 by decide))
          intro K Q hK
          simp only [fr45] at hK ⊢
          rw [e1] at hK ⊢
          clear hcl hun hJ
          go_simp
          exact hK _ _ ⟨fun _ => rfl, hJ3.out⟩
        · have e1 : y 32 = .pointer (some ⟨wr.heap.size, 1, none⟩) := (hp.out 4 (by decide)).2 (by decide)
          have hJ3 := Lib.hid (hJ.pure (show (13 : Nat) ≠ 5 by decide) (show (14 : Nat) ≠ 5 by decide))
          have hce := HC2.out _ hb3.out
          intro K Q hK
          simp only [fr45] at hK ⊢
          rw [e1] at hK ⊢
          clear hcl hun hJ
          go_simp
          exact hK _ _ ⟨fun _ => rfl, hJ3.out⟩
        · have e1 : y 6 = .pointer (some ⟨wr.heap.size, 0, none⟩) := hy.out 6 (by decide)
          have hJ3 := Lib.hid (hJ.pure (show (13 : Nat) ≠ 6 by decide) (show (14 : Nat) ≠ 6 by decide))
          intro K Q hK
          simp only [fr45] at hK ⊢
          rw [e1] at hK ⊢
          clear hcl hun hJ
          go_simp
          exact hK _ _ ⟨fun _ => rfl, hJ3.out⟩
        · have e1 : y 34 = .pointer (some ⟨wr.heap.size, 2, none⟩) := (hp.out 6 (by decide)).2 (by decide)
          have hJ3 := Lib.hid (hJ.pure (show (13 : Nat) ≠ 7 by decide) (show (14 : Nat) ≠ 7 by decide))
          have hce := HC3.out _ hb3.out
          intro K Q hK
          simp only [fr45] at hK ⊢
          rw [e1] at hK ⊢
          clear hcl hun hJ
          go_simp
          exact hK _ _ ⟨fun _ => rfl, hJ3.out⟩
        · have e1 : y 6 = .pointer (some ⟨wr.heap.size, 0, none⟩) := hy.out 6 (by decide)
          have hJ3 := Lib.hid (hJ.pure (show (13 : Nat) ≠ 8 by decide) (show (14 : Nat) ≠ 8 by decide))
          intro K Q hK
          simp only [fr45] at hK ⊢
          rw [e1] at hK ⊢
          clear hcl hun hJ
          go_simp
          exact hK _ _ ⟨fun _ => rfl, hJ3.out⟩
        · have e1 : y 36 = .pointer (some ⟨wr.heap.size, 3, none⟩) := (hp.out 8 (by decide)).2 (by decide)
          have hJ3 := Lib.hid (hJ.pure (show (13 : Nat) ≠ 9 by decide) (show (14 : Nat) ≠ 9 by decide))
          have hce := HC4.out _ hb3.out
          intro K Q hK
          simp only [fr45] at hK ⊢
          rw [e1] at hK ⊢
          clear hcl hun hJ
          go_simp
          exact hK _ _ ⟨fun _ => rfl, hJ3.out⟩
        · have e1 : y 6 = .pointer (some ⟨wr.heap.size, 0, none⟩) := hy.out 6 (by decide)
          have hJ3 := Lib.hid (hJ.pure (show (13 : Nat) ≠ 10 by decide) (show (14 : Nat) ≠ 10 by decide))
          intro K Q hK
          simp only [fr45] at hK ⊢
          rw [e1] at hK ⊢
          clear hcl hun hJ
          go_simp
          exact hK _ _ ⟨fun _ => rfl, hJ3.out⟩
        · have e1 : y 38 = .pointer (some ⟨wr.heap.size, 4, none⟩) := (hp.out 10 (by decide)).2 (by decide)
          have hJ3 := Lib.hid (hJ.pure (show (13 : Nat) ≠ 11 by decide) (show (14 : Nat) ≠ 11 by decide))
          have hsl := HSL.out w3
          intro K Q hK
          simp only [fr45] at hK ⊢
          rw [e1] at hK ⊢
          clear hcl hun hJ
          go_simp
          exact hK _ _ ⟨fun _ => rfl, hJ3.out⟩
        · have e1 : y 29 = .int .u64 p.a := (hp.out 1 (by decide)).2 (by decide)
          have e2 : y 31 = .int .i64 p.prot := (hp.out 3 (by decide)).2 (by decide)
          have e3 : y 33 = .bool p.dirty := (hp.out 5 (by decide)).2 (by decide)
          have e4 : y 35 = .string p.file := (hp.out 7 (by decide)).2 (by decide)
          have e5 : y 37 = .int .u64 p.off := (hp.out 9 (by decide)).2 (by decide)
          have e6 : y 39 = .slice (some ⟨wr.heap.size, 4, none⟩) 256 256 := (hp.out 11 (by decide)).2 (by decide)
          have hJ3 := Lib.hid (hJ.pure (show (13 : Nat) ≠ 12 by decide) (show (14 : Nat) ≠ 12 by decide))
          intro K Q hK
          simp only [fr45] at hK ⊢
          rw [e1, e2, e3, e4, e5, e6] at hK ⊢
          clear hcl hun hJ
          go_simp
          exact hK _ _ ⟨fun _ => rfl, hJ3.out⟩
        · have e1 : y 40 = .agg #[.int .u64 p.a, .int .i64 p.prot, .bool p.dirty, .string p.file, .int .u64 p.off, .slice (some ⟨wr.heap.size, 4, none⟩) 256 256] := (hp.out 12 (by decide)).2 (by decide)
          have hJ2 := hJ.first (by decide) hL (fun h => hcl 14 _ rfl h 13 (by decide))
          obtain ⟨rfl, hJ3⟩ := hJ2
          intro K Q hK
          simp only [fr45] at hK ⊢
          rw [e1] at hK ⊢
          clear hcl hun hJ
          go_simp
          rw [← HW1.out]
          exact hK _ _ ⟨fun _ => rfl, hJ3⟩
        · have e1 := (hp.out 0 (by decide)).2 (by decide)
          have e2 : y 41 = .slice (some ⟨wq.heap.size, 0, none⟩) 1 1 := (hp.out 13 (by decide)).2 (by decide)
          obtain ⟨rfl, hJ3⟩ := hJ.second (by decide) hL (hp.out 13 (by decide)).1
          exact step_append 22 (.tmp 28) (.tmp 41) rfl _ _ ((eval_frame 45 y _ (by decide)).trans e1) ((eval_frame 45 y _ (by decide)).trans e2) (HRUN.out) ⟨fun _ => rfl, hJ3⟩
        · have e1 : y 42 = v' := (hp.out 14 (by decide)).2 (by decide)
          have hJ3 := Lib.hid (hJ.pure (show (13 : Nat) ≠ 15 by decide) (show (14 : Nat) ≠ 15 by decide))
          intro K Q hK
          simp only [fr45] at hK ⊢
          rw [e1] at hK ⊢
          clear hcl hun hJ
          go_simp
          exact hK _ _ ⟨fun _ => rfl, hJ3.out⟩
    · have hlti : ¬ (k : Int) < n := by omega
      obtain rfl : k = n := by omega
      have HT : Hid (M.take k = M) := Lib.hid (List.take_of_length_le (by rw [HN.out]; exact Nat.le_refl _))
      go_wp2
      go_ret
      have h1 := HROW.out
      rw [HT.out] at h1
      have hz := HB1.out.size
      exact ⟨_, bl, rfl, HBL.out.trans HN.out.symm, by rw [HN.out]; exact Vp.own_base h1 hz, fun j hj => by
        obtain ⟨e1, e2⟩ := HBK.out j (by rw [← HN.out]; exact hj)
        exact ⟨Nat.le_trans hz e1, e2⟩, HB1.out.trans (HB.out.mono hz)⟩
end Go.Proofs.Ytahjgbmhleiocaa
