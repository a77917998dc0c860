/-
  What is proved here: Store of package vmem.
  Conditions: none.
-/
import Derived.Test.YtahjgbmhleiocaaVmProt
import Derived.Test.YtahjgbmhleiocaaOSet
namespace Go.Proofs.Ytahjgbmhleiocaa
open Go.RowKit Go.WideMaps Go.Maps
set_option linter.unusedVariables false
set_option linter.unusedSimpArgs false

def setDirty (p : Pg) : Pg := { p with dirty := true }
theorem pgC_dirty (p : Pg) : (pgC p).setIfInBounds 1 (.bool true) = pgC (setDirty p) := by
  unfold pgC setDirty
  simp
theorem set_all (N : Nat) (u : Int) : setB (List.replicate N 0) 0 u N = digs u N := by
  have h := setB_piece (zs := List.replicate N 0) (p := 0) (k := N) u (by simp)
  have hl := setB_len (zs := List.replicate N 0) (p := 0) (k := N) u (by simp)
  rw [List.length_replicate] at hl
  have h2 := piece_self (setB (List.replicate N 0) 0 u N)
  rw [hl, h] at h2
  exact h2.symm
/-- What Store makes of memory, and what it answers. -/
def storeR (M : List Pg) (x : Nat) (n u : Int) : List Pg × Int :=
  if (accR M x n 2).1 = 0 then (mapL setDirty (fillM M (accR M x n 2).2 (digs u n.toNat)) (accR M x n 2).2, 0) else (M, (accR M x n 2).1)
set_option maxHeartbeats 12800000 in
set_option maxRecDepth 100000 in
theorem Store_ok {w : World} {S : VS} {M : List Pg} {c : Nat} (h : VAt w S M c) (x : Nat) (n u : Int) (x1 : x ≤ 18446744073709551615) (u0 : 0 ≤ u) (u1 : u ≤ 18446744073709551615) :
    Calls Try.prog 18 #[ptrV S.g, .int .u64 x, .int .i64 n, .int .u64 u] w fun e w' => e = .returned (.int .i64 (storeR M x n u).2) ∧ VAt w' S (storeR M x n u).1 c ∧ TurnV S w w' := by
  have HA := Lib.hid (access_ok h x n 2 x1)
  have HH := Lib.hid h
  unfold storeR
  by_cases h0 : (accR M x n 2).1 = 0
  · rw [if_pos h0]
    obtain ⟨hw, hs⟩ := acc_zero h0
    obtain ⟨R, hR⟩ : ∃ R, accR M x n 2 = R := ⟨_, rfl⟩
    rw [hR] at HA h0 hs ⊢
    obtain ⟨e, L⟩ := R
    simp only at h0 hs ⊢
    subst h0
    have hg := span_good (M := M) n.toNat x L hs
    have hsum := span_len (M := M) n.toNat x L hs
    obtain ⟨N, hN⟩ : ∃ N : Nat, n.toNat = N := ⟨_, rfl⟩
    obtain rfl : n = (N : Int) := by unfold isW at hw; omega
    have hw2 : N = 1 ∨ N = 2 ∨ N = 4 ∨ N = 8 := by unfold isW at hw; omega
    rw [hN] at hsum ⊢
    have hm8 : L.length ≤ 8 := by
      have := len_sum L (fun p hp => (hg p hp).2)
      omega
    obtain ⟨ds, hds⟩ : ∃ ds, digs u N = ds := ⟨_, rfl⟩
    have HD : Hid (setB (List.replicate N 0) 0 u N = ds) := Lib.hid (by rw [set_all, hds])
    rw [hds]
    have HDL : Hid (ds.length = N) := Lib.hid (by rw [← HD.out, setB_len u (by simp)]; simp)
    have HDB : Hid (∀ z ∈ ds, 0 ≤ z ∧ z ≤ 255) := Lib.hid (by rw [← HD.out]; exact setB_bd 0 N u (fun z hz => by rw [(List.mem_replicate.1 hz).2]; exact ⟨by decide, by decide⟩))
    have HG := Lib.hid hg
    have HSM := Lib.hid hsum
    have HW := Lib.hid hw2
    have HL := Lib.hid hm8
    have hS := Lib.hid h.sm
    have HU0 := Lib.hid u0
    have HU1 := Lib.hid u1
    have hN8 : N ≤ 8 := by omega
    obtain ⟨i0, hi, hz0, hz1, hz2⟩ := info_parts info_u8
    have HI := Lib.hid hi
    have HZ0 := Lib.hid hz0
    have HZ1 := Lib.hid hz1
    have HZ2 := Lib.hid hz2
    clear hw hw2 hs hR hg hsum hN h hds hm8 hi hz0 hz1 hz2 u0 u1
    unfold ptrV at *
    go_enter Try.func18, Try.ntmps18
    go_wp2_with fail
    refine HA.out.mono ?_
    rintro r1 w1 ⟨hb1, v, rfl, hv⟩
    have HB1 := Lib.hid hb1
    have HSP := Lib.hid (own_notown hv hS.out)
    have HA1 := Lib.hid (HH.out.below hb1)
    clear hb1 HA
    obtain ⟨va, vc, hve⟩ := own_slp hv
    have HV := Lib.hid hv
    obtain ⟨m, hm⟩ : ∃ m, L.length = m := ⟨_, rfl⟩
    have hl : m ≤ 8 := by rw [← hm]; exact HL.out
    have HM := Lib.hid hm
    simp only at hve
    rw [hm] at hve
    have HVE := Lib.hid hve
    rw [hve]
    clear hv hm hve
    go_wp2_with (at_make; refine wpList_make_full _ rfl _ _ 25 rfl w1.heap.size 5 i0 (.int .u8 0) 1 Try.underlying25 HI.out HZ0.out HZ1.out .i64 .i64 _ _ N rfl rfl rfl rfl ?c1 ?c2 ?c3 ?_)
    case c1 => rw [HZ2.out]; omega
    case c2 => unfold maxLen; omega
    case c3 => exact Nat.le_refl _
    intro w2 hown hg2
    have hbm : Below w1.heap.size w1 w2 := (Below.refl _ _).grown hg2 (Nat.le_refl _) (fun _ e => by cases e)
    rw [toList_madeCells_one] at hown
    have HB2 := Lib.hid hbm
    have HO2 : Hid (Bys w2 w2.heap.size (some ⟨w1.heap.size, 0, none⟩) N (List.replicate N 0)) := Lib.hid (Bys.own (fun z hz => by rw [(List.mem_replicate.1 hz).2]; exact ⟨by decide, by decide⟩) (by rw [List.map_replicate]; exact hown))
    clear hown hg2 hbm
    go_wp2_with fail
    refine (set_ok w2.heap.size (some ⟨w1.heap.size, 0, none⟩) N N (List.replicate N 0) 0 N u w2 HO2.out (Nat.le_refl _) HW.out (by omega) (by omega) HU0.out HU1.out).mono ?_
    rintro r3 w3 ⟨rfl, ho3, hb3⟩
    rw [HD.out] at ho3
    have HO3 := Lib.hid (Bys.own HDB.out ho3)
    have HB3 := Lib.hid hb3
    clear ho3 hb3 HO2
    go_wp2_with fail
    have hba : Below w1.heap.size w1 w3 := HB2.out.trans (HB3.out.mono HB2.out.size)
    have hv3 : w3.ownsRow w.heap.size 83 2 (.slice va m vc) L.length (ptCs S L) := by
      have q := HV.out
      rw [HVE.out] at q
      exact own_below2 q hba
    refine (fill_ok (HA1.out.below hba) hv3 (fun g hg => HSP.out g (by rw [HVE.out]; exact hg)) HG.out (Nat.le_trans HL.out (by decide)) ds (some ⟨w2.heap.size, 0, none⟩) N N w3.heap.size HO3.out (Nat.le_refl _) (fun gb ob e ho => by injection e with e; injection e with e _; subst e; have q1 := hS.out _ ho; have q2 := HB1.out.size; have q3 := HB2.out.size; omega) (Nat.le_of_eq HSM.out) (Nat.le_refl _) (by omega)).mono ?_
    rintro r4 w4 ⟨rfl, h4, t4⟩
    have H4 := Lib.hid h4
    have T4 := Lib.hid ((TurnV.of_below hba).trans t4)
    clear h4 t4 hba hv3 HB2 HB3 HO3
    go_wp2
    go_loopw [14, 38] (fun _ i wr => ∃ k : Nat, k ≤ m ∧ i = .int .i64 k ∧ Hid (VAt wr S (mapL setDirty (fillM M L ds) (L.take k)) c) ∧ Hid (TurnV S w1 wr)) (fun _ i _ => m - (intOf i).toNat)
    case atStart => exact ⟨0, Nat.zero_le _, rfl, H4, T4⟩
    case round =>
      obtain ⟨k, hkm, rfl, HAT, HT⟩ := hrel
      by_cases hlt : k < m
      · have hlti : (k : Int) < m := by omega
        obtain ⟨g, cap, e9, hcap, hgz, q0, q1⟩ := pts_n (k := k) HV.out (by rw [HM.out]; exact hlt)
        have hgo : ¬ S.own g := HSP.out g (by rw [e9]; rfl)
        rw [HVE.out, HM.out] at e9
        injection e9 with e91 e92 e93
        subst e91
        subst e93
        rw [HM.out] at hcap
        have hcapi : (k : Int) < vc := by omega
        have q0 : wr.cell? ⟨g, k * 2, none⟩ = _ := (World.cell?_of_block (w := w1) (HT.out.block g hgz hgo)).trans q0
        have q1 : wr.cell? ⟨g, k * 2 + 1, none⟩ = _ := (World.cell?_of_block (w := w1) (HT.out.block g hgz hgo)).trans q1
        obtain ⟨p, hp⟩ : ∃ p, L.getD k pt0 = p := ⟨_, rfl⟩
        have hpm : p ∈ L := by
          rw [← hp, List.getD_eq_getElem?_getD, List.getElem?_eq_getElem (by rw [HM.out]; exact hlt)]
          exact List.getElem_mem _
        have hsn : L.take (k + 1) = L.take k ++ [p] := by
          rw [List.take_succ_eq_append_getElem (by rw [HM.out]; exact hlt), ← hp, List.getD_eq_getElem?_getD, List.getElem?_eq_getElem (by rw [HM.out]; exact hlt)]; rfl
        rw [hp] at q0 q1
        obtain ⟨hgood, hp1⟩ := HG.out p hpm
        obtain ⟨q, hq, ho⟩ := mapL_good (f := setDirty) (fun _ => rfl) (L.take k) (fill_good L ds hgood)
        obtain ⟨hqm, hqa⟩ := findP_mem hq
        have hok := HAT.out.ok q hqm
        have hBq := HAT.out.pg q hqm
        rw [hqa] at hBq
        have hclt : S.pb p.a < wr.heap.size := hBq.lt
        have hne : S.pb p.a ≠ wr.heap.size := Nat.ne_of_lt hclt
        have c0 : ∀ o, (wr.alloc o).cell? ⟨S.pb p.a, 1, none⟩ = some (.bool q.dirty) := fun o => (hBq.alloc o).cell 1
        have f0 : ∀ o, (wr.alloc o).frozen? ⟨S.pb p.a, 1, none⟩ = false := fun o => (hBq.alloc o).frozen 1
        have HEND : Hid (∀ X, VAt ((wr.setCell ⟨S.pb p.a, 1, none⟩ (.bool true)).alloc X) S (mapL setDirty (fillM M L ds) (L.take (k + 1))) c ∧ TurnV S w1 ((wr.setCell ⟨S.pb p.a, 1, none⟩ (.bool true)).alloc X)) := Lib.hid (fun X => by
          have hown : S.own (S.pb p.a) := by rw [← hqa]; exact HAT.out.op q hqm
          have hba := (Below.refl (wr.setCell ⟨S.pb p.a, 1, none⟩ (.bool true)).heap.size (wr.setCell ⟨S.pb p.a, 1, none⟩ (.bool true))).alloc (Nat.le_refl _) X
          have ht : TurnV S wr (wr.setCell ⟨S.pb p.a, 1, none⟩ (.bool true)) := ⟨rfl, rfl, rfl, by simp, fun j hj hno => Below.heap_setCell _ _ _ _ (fun e => hno (by rw [e]; exact hown))⟩
          refine ⟨VAt.below ?_ hba, HT.out.trans (ht.trans (TurnV.of_below hba))⟩
          have hb2 := hBq.set 1 (.bool true)
          rw [pgC_dirty] at hb2
          rw [hsn, mapL_snoc]
          have hu := HAT.out.upd (w' := wr.setCell ⟨S.pb p.a, 1, none⟩ (.bool true)) hqm (f := setDirty) (fun _ => rfl) ⟨hok.al, hok.lt, hok.pr, hok.fi, hok.of, hok.len, hok.bd⟩ (by rw [hqa]; exact hb2) (fun j _ hj => Below.heap_setCell _ _ _ _ (by rw [hqa] at hj; exact hj)) (by simp)
          rw [hqa] at hu
          exact hu)
        have HK := Lib.hid hlt
        clear hp hpm hsn hgood hp1 hq ho hqm hqa hok hBq
        go_wp2
        go_roundw
        case rel => exact ⟨k + 1, HK.out, by go_num, Lib.hid (HEND.out _).1, Lib.hid (HEND.out _).2⟩
        case measure => have := HK.out; simp [intOf]; omega
      · have hlti : ¬ (k : Int) < m := by omega
        obtain rfl : k = m := by omega
        have HE : Hid (L.take k = L) := Lib.hid (List.take_of_length_le (by rw [HM.out]; exact Nat.le_refl _))
        rw [HE.out] at HAT
        go_wp2
        go_ret
        exact ⟨rfl, HAT.out, (TurnV.of_below HB1.out).trans HT.out⟩
  · rw [if_neg h0]
    have hE := acc_else h0
    obtain ⟨E, hEE⟩ : ∃ E, (accR M x n 2).1 = E := ⟨_, rfl⟩
    obtain ⟨R, hR⟩ : ∃ R, accR M x n 2 = R := ⟨_, rfl⟩
    rw [hR] at HA h0 hE hEE ⊢
    rw [hEE] at hE ⊢
    clear hR h
    have HQ := Lib.hid hEE
    clear hEE h0
    unfold ptrV at *
    go_enter Try.func18, Try.ntmps18
    go_wp2_with fail
    refine HA.out.mono ?_
    rintro r1 w1 ⟨hb1, v, rfl, hv⟩
    obtain ⟨va, vc, hve⟩ := own_slp hv
    rw [hve, HQ.out]
    have HB1 := Lib.hid hb1
    clear hb1 hv HA hve
    rcases hE with rfl | rfl | rfl
    all_goals go_wp2
    all_goals go_ret
    all_goals exact ⟨rfl, HH.out.below HB1.out, TurnV.of_below HB1.out⟩
end Go.Proofs.Ytahjgbmhleiocaa
