/-
  What is proved here: Store of package vmem. · plain words: spans page by page and byte by byte; what is written page by page.
  Conditions: as they say.
-/
import Derived.Test.YtkhfmgifpppcmaaDoorVmProt
import Derived.Test.YtkhfmgifpppcmaaDoorOSet
namespace Go.Proofs.YtkhfmgifpppcmaaDoor
open Go.RowKit Go.WideMaps Go.Maps
set_option linter.unusedVariables false
set_option linter.unusedSimpArgs false

def setDirty (p : Pg) : Pg := { p with dirty := true }
theorem pgC_dirty (p : Pg) : (pgC p).setIfInBounds 1 (.bool true) = pgC (setDirty p) := by
  unfold pgC setDirty
  simp
theorem set_all (N : Nat) (u : Int) : setB (List.replicate N 0) 0 u N = digs u N := by
  have h := setB_piece (zs := List.replicate N 0) (p := 0) (k := N) u (by simp)
  have hl := setB_len (zs := List.replicate N 0) (p := 0) (k := N) u (by simp)
  rw [List.length_replicate] at hl
  have h2 := piece_self (setB (List.replicate N 0) 0 u N)
  rw [hl, h] at h2
  exact h2.symm
/-- What Store makes of memory, and what it answers. -/
def storeR (M : List Pg) (x : Nat) (n u : Int) : List Pg × Int :=
  if (accR M x n 2).1 = 0 then (mapL setDirty (fillM M (accR M x n 2).2 (digs u n.toNat)) (accR M x n 2).2, 0) else (M, (accR M x n 2).1)
set_option maxHeartbeats 12800000 in
set_option maxRecDepth 100000 in
theorem Store_ok {w : World} {S : VS} {M : List Pg} {c : Nat} (h : VAt w S M c) (x : Nat) (n u : Int) (x1 : x ≤ 18446744073709551615) (u0 : 0 ≤ u) (u1 : u ≤ 18446744073709551615) :
    Calls Tryd.prog 32 #[ptrV S.g, .int .u64 x, .int .i64 n, .int .u64 u] w fun e w' => e = .returned (.int .i64 (storeR M x n u).2) ∧ VAt w' S (storeR M x n u).1 c ∧ TurnV S w w' := by
  have HA := Lib.hid (access_ok h x n 2 x1)
  have HH := Lib.hid h
  unfold storeR
  by_cases h0 : (accR M x n 2).1 = 0
  · rw [if_pos h0]
    obtain ⟨hw, hs⟩ := acc_zero h0
    obtain ⟨R, hR⟩ : ∃ R, accR M x n 2 = R := ⟨_, rfl⟩
    rw [hR] at HA h0 hs ⊢
    obtain ⟨e, L⟩ := R
    simp only at h0 hs ⊢
    subst h0
    have hg := span_good (M := M) n.toNat x L hs
    have hsum := span_len (M := M) n.toNat x L hs
    obtain ⟨N, hN⟩ : ∃ N : Nat, n.toNat = N := ⟨_, rfl⟩
    obtain rfl : n = (N : Int) := by unfold isW at hw; omega
    have hw2 : N = 1 ∨ N = 2 ∨ N = 4 ∨ N = 8 := by unfold isW at hw; omega
    rw [hN] at hsum ⊢
    have hm8 : L.length ≤ 8 := by
      have := len_sum L (fun p hp => (hg p hp).2)
      omega
    obtain ⟨ds, hds⟩ : ∃ ds, digs u N = ds := ⟨_, rfl⟩
    have HD : Hid (setB (List.replicate N 0) 0 u N = ds) := Lib.hid (by rw [set_all, hds])
    rw [hds]
    have HDL : Hid (ds.length = N) := Lib.hid (by rw [← HD.out, setB_len u (by simp)]; simp)
    have HDB : Hid (∀ z ∈ ds, 0 ≤ z ∧ z ≤ 255) := Lib.hid (by rw [← HD.out]; exact setB_bd 0 N u (fun z hz => by rw [(List.mem_replicate.1 hz).2]; exact ⟨by decide, by decide⟩))
    have HG := Lib.hid hg
    have HSM := Lib.hid hsum
    have HW := Lib.hid hw2
    have HL := Lib.hid hm8
    have hS := Lib.hid h.sm
    have HU0 := Lib.hid u0
    have HU1 := Lib.hid u1
    have hN8 : N ≤ 8 := by omega
    obtain ⟨i0, hi, hz0, hz1, hz2⟩ := info_parts info_u8
    have HI := Lib.hid hi
    have HZ0 := Lib.hid hz0
    have HZ1 := Lib.hid hz1
    have HZ2 := Lib.hid hz2
    clear hw hw2 hs hR hg hsum hN h hds hm8 hi hz0 hz1 hz2 u0 u1
    unfold ptrV at *
    go_enter Tryd.func32, Tryd.ntmps32
    go_wp2_with fail
    refine HA.out.mono ?_
    rintro r1 w1 ⟨hb1, v, rfl, hv⟩
    have HB1 := Lib.hid hb1
    have HSP := Lib.hid (own_notown hv hS.out)
    have HA1 := Lib.hid (HH.out.below hb1)
    clear hb1 HA
    obtain ⟨va, vc, hve⟩ := own_slp hv
    have HV := Lib.hid hv
    obtain ⟨m, hm⟩ : ∃ m, L.length = m := ⟨_, rfl⟩
    have hl : m ≤ 8 := by rw [← hm]; exact HL.out
    have HM := Lib.hid hm
    simp only at hve
    rw [hm] at hve
    have HVE := Lib.hid hve
    rw [hve]
    clear hv hm hve
    go_wp2_with (at_make; refine wpList_make_full _ rfl _ _ 32 rfl w1.heap.size 5 i0 (.int .u8 0) 1 Tryd.underlying32 HI.out HZ0.out HZ1.out .i64 .i64 _ _ N rfl rfl rfl rfl ?c1 ?c2 ?c3 ?_)
    case c1 => rw [HZ2.out]; omega
    case c2 => unfold maxLen; omega
    case c3 => exact Nat.le_refl _
    intro w2 hown hg2
    have hbm : Below w1.heap.size w1 w2 := (Below.refl _ _).grown hg2 (Nat.le_refl _) (fun _ e => by cases e)
    rw [toList_madeCells_one] at hown
    have HB2 := Lib.hid hbm
    have HO2 : Hid (Bys w2 w2.heap.size (some ⟨w1.heap.size, 0, none⟩) N (List.replicate N 0)) := Lib.hid (Bys.own (fun z hz => by rw [(List.mem_replicate.1 hz).2]; exact ⟨by decide, by decide⟩) (by rw [List.map_replicate]; exact hown))
    clear hown hg2 hbm
    go_wp2_with fail
    refine (set_ok w2.heap.size (some ⟨w1.heap.size, 0, none⟩) N N (List.replicate N 0) 0 N u w2 HO2.out (Nat.le_refl _) HW.out (by omega) (by omega) HU0.out HU1.out).mono ?_
    rintro r3 w3 ⟨rfl, ho3, hb3⟩
    rw [HD.out] at ho3
    have HO3 := Lib.hid (Bys.own HDB.out ho3)
    have HB3 := Lib.hid hb3
    clear ho3 hb3 HO2
    go_wp2_with fail
    have hba : Below w1.heap.size w1 w3 := HB2.out.trans (HB3.out.mono HB2.out.size)
    have hv3 : w3.ownsRow w.heap.size 74 2 (.slice va m vc) L.length (ptCs S L) := by
      have q := HV.out
      rw [HVE.out] at q
      exact own_below2 q hba
    refine (fill_ok (HA1.out.below hba) hv3 (fun g hg => HSP.out g (by rw [HVE.out]; exact hg)) HG.out (Nat.le_trans HL.out (by decide)) ds (some ⟨w2.heap.size, 0, none⟩) N N w3.heap.size HO3.out (Nat.le_refl _) (fun gb ob e ho => by injection e with e; injection e with e _; subst e; have q1 := hS.out _ ho; have q2 := HB1.out.size; have q3 := HB2.out.size; omega) (Nat.le_of_eq HSM.out) (Nat.le_refl _) (by omega)).mono ?_
    rintro r4 w4 ⟨rfl, h4, t4⟩
    have H4 := Lib.hid h4
    have T4 := Lib.hid ((TurnV.of_below hba).trans t4)
    clear h4 t4 hba hv3 HB2 HB3 HO3
    go_wp2
    go_loopw [14, 38] (fun _ i wr => ∃ k : Nat, k ≤ m ∧ i = .int .i64 k ∧ Hid (VAt wr S (mapL setDirty (fillM M L ds) (L.take k)) c) ∧ Hid (TurnV S w1 wr)) (fun _ i _ => m - (intOf i).toNat)
    case atStart => exact ⟨0, Nat.zero_le _, rfl, H4, T4⟩
    case round =>
      obtain ⟨k, hkm, rfl, HAT, HT⟩ := hrel
      by_cases hlt : k < m
      · have hlti : (k : Int) < m := by omega
        obtain ⟨g, cap, e9, hcap, hgz, q0, q1⟩ := pts_n (k := k) HV.out (by rw [HM.out]; exact hlt)
        have hgo : ¬ S.own g := HSP.out g (by rw [e9]; rfl)
        rw [HVE.out, HM.out] at e9
        injection e9 with e91 e92 e93
        subst e91
        subst e93
        rw [HM.out] at hcap
        have hcapi : (k : Int) < vc := by omega
        have q0 : wr.cell? ⟨g, k * 2, none⟩ = _ := (World.cell?_of_block (w := w1) (HT.out.block g hgz hgo)).trans q0
        have q1 : wr.cell? ⟨g, k * 2 + 1, none⟩ = _ := (World.cell?_of_block (w := w1) (HT.out.block g hgz hgo)).trans q1
        obtain ⟨p, hp⟩ : ∃ p, L.getD k pt0 = p := ⟨_, rfl⟩
        have hpm : p ∈ L := by
          rw [← hp, List.getD_eq_getElem?_getD, List.getElem?_eq_getElem (by rw [HM.out]; exact hlt)]
          exact List.getElem_mem _
        have hsn : L.take (k + 1) = L.take k ++ [p] := by
          rw [List.take_succ_eq_append_getElem (by rw [HM.out]; exact hlt), ← hp, List.getD_eq_getElem?_getD, List.getElem?_eq_getElem (by rw [HM.out]; exact hlt)]; rfl
        rw [hp] at q0 q1
        obtain ⟨hgood, hp1⟩ := HG.out p hpm
        obtain ⟨q, hq, ho⟩ := mapL_good (f := setDirty) (fun _ => rfl) (L.take k) (fill_good L ds hgood)
        obtain ⟨hqm, hqa⟩ := findP_mem hq
        have hok := HAT.out.ok q hqm
        have hBq := HAT.out.pg q hqm
        rw [hqa] at hBq
        have hclt : S.pb p.a < wr.heap.size := hBq.lt
        have hne : S.pb p.a ≠ wr.heap.size := Nat.ne_of_lt hclt
        have c0 : ∀ o, (wr.alloc o).cell? ⟨S.pb p.a, 1, none⟩ = some (.bool q.dirty) := fun o => (hBq.alloc o).cell 1
        have f0 : ∀ o, (wr.alloc o).frozen? ⟨S.pb p.a, 1, none⟩ = false := fun o => (hBq.alloc o).frozen 1
        have HEND : Hid (∀ X, VAt ((wr.setCell ⟨S.pb p.a, 1, none⟩ (.bool true)).alloc X) S (mapL setDirty (fillM M L ds) (L.take (k + 1))) c ∧ TurnV S w1 ((wr.setCell ⟨S.pb p.a, 1, none⟩ (.bool true)).alloc X)) := Lib.hid (fun X => by
          have hown : S.own (S.pb p.a) := by rw [← hqa]; exact HAT.out.op q hqm
          have hba := (Below.refl (wr.setCell ⟨S.pb p.a, 1, none⟩ (.bool true)).heap.size (wr.setCell ⟨S.pb p.a, 1, none⟩ (.bool true))).alloc (Nat.le_refl _) X
          have ht : TurnV S wr (wr.setCell ⟨S.pb p.a, 1, none⟩ (.bool true)) := ⟨rfl, rfl, rfl, by simp, fun j hj hno => Below.heap_setCell _ _ _ _ (fun e => hno (by rw [e]; exact hown))⟩
          refine ⟨VAt.below ?_ hba, HT.out.trans (ht.trans (TurnV.of_below hba))⟩
          have hb2 := hBq.set 1 (.bool true)
          rw [pgC_dirty] at hb2
          rw [hsn, mapL_snoc]
          have hu := HAT.out.upd (w' := wr.setCell ⟨S.pb p.a, 1, none⟩ (.bool true)) hqm (f := setDirty) (fun _ => rfl) ⟨hok.al, hok.lt, hok.pr, hok.fi, hok.of, hok.len, hok.bd⟩ (by rw [hqa]; exact hb2) (fun j _ hj => Below.heap_setCell _ _ _ _ (by rw [hqa] at hj; exact hj)) (by simp)
          rw [hqa] at hu
          exact hu)
        have HK := Lib.hid hlt
        clear hp hpm hsn hgood hp1 hq ho hqm hqa hok hBq
        go_wp2
        go_roundw
        case rel => exact ⟨k + 1, HK.out, by go_num, Lib.hid (HEND.out _).1, Lib.hid (HEND.out _).2⟩
        case measure => have := HK.out; simp [intOf]; omega
      · have hlti : ¬ (k : Int) < m := by omega
        obtain rfl : k = m := by omega
        have HE : Hid (L.take k = L) := Lib.hid (List.take_of_length_le (by rw [HM.out]; exact Nat.le_refl _))
        rw [HE.out] at HAT
        go_wp2
        go_ret
        exact ⟨rfl, HAT.out, (TurnV.of_below HB1.out).trans HT.out⟩
  · rw [if_neg h0]
    have hE := acc_else h0
    obtain ⟨E, hEE⟩ : ∃ E, (accR M x n 2).1 = E := ⟨_, rfl⟩
    obtain ⟨R, hR⟩ : ∃ R, accR M x n 2 = R := ⟨_, rfl⟩
    rw [hR] at HA h0 hE hEE ⊢
    rw [hEE] at hE ⊢
    clear hR h
    have HQ := Lib.hid hEE
    clear hEE h0
    unfold ptrV at *
    go_enter Tryd.func32, Tryd.ntmps32
    go_wp2_with fail
    refine HA.out.mono ?_
    rintro r1 w1 ⟨hb1, v, rfl, hv⟩
    obtain ⟨va, vc, hve⟩ := own_slp hv
    rw [hve, HQ.out]
    have HB1 := Lib.hid hb1
    clear hb1 hv HA hve
    rcases hE with rfl | rfl | rfl
    all_goals go_wp2
    all_goals go_ret
    all_goals exact ⟨rfl, HH.out.below HB1.out, TurnV.of_below HB1.out⟩
end Go.Proofs.YtkhfmgifpppcmaaDoor
namespace Go.Proofs.YtkhfmgifpppcmaaDoor
open Go.RowKit
set_option linter.unusedVariables false
set_option linter.unusedSimpArgs false

theorem span_all {M : List Pg} (n : Nat) : ∀ x : Nat, (spanP M x n).isSome = true ↔ ∀ i, i < n → (findP M ((x + i) / 256 * 256)).isSome = true := by
  induction n using Nat.strongRecOn with
  | ind n ih =>
    intro x
    by_cases hz : n = 0
    · subst hz
      rw [span_zero]
      exact ⟨fun _ i hi => absurd hi (by omega), fun _ => rfl⟩
    · cases hf : findP M (x / 256 * 256) with
      | none =>
        rw [span_none hz hf]
        refine ⟨fun h => (by cases h), fun h => ?_⟩
        have := h 0 (by omega)
        rw [Nat.add_zero, hf] at this
        cases this
      | some p =>
        have hm : n - min n (256 - x % 256) < n := by omega
        rw [span_some hz hf, Option.isSome_map, ih _ hm]
        constructor
        · intro h i hi
          by_cases hlt : i < min n (256 - x % 256)
          · rw [show (x + i) / 256 * 256 = x / 256 * 256 by omega, hf]; rfl
          · have := h (i - min n (256 - x % 256)) (by omega)
            rw [show x + min n (256 - x % 256) + (i - min n (256 - x % 256)) = x + i by omega] at this
            exact this
        · intro h i hi
          have := h (min n (256 - x % 256) + i) (by omega)
          rw [← Nat.add_assoc] at this
          exact this
theorem span_cons {M : List Pg} {x n : Nat} {L : List Pt} (hz : n ≠ 0) (h : spanP M x n = some L) :
    ∃ p r, findP M (x / 256 * 256) = some p ∧ spanP M (x + min n (256 - x % 256)) (n - min n (256 - x % 256)) = some r ∧ L = ⟨x / 256 * 256, x % 256, min n (256 - x % 256)⟩ :: r := by
  cases hf : findP M (x / 256 * 256) with
  | none => rw [span_none hz hf] at h; cases h
  | some p =>
    rw [span_some hz hf] at h
    cases hr : spanP M (x + min n (256 - x % 256)) (n - min n (256 - x % 256)) with
    | none => rw [hr] at h; cases h
    | some r =>
      rw [hr] at h
      injection h with h
      exact ⟨p, r, rfl, rfl, h.symm⟩
theorem span_byte {M : List Pg} (hM : ∀ p ∈ M, p.Ok) (n : Nat) : ∀ (x : Nat) (L : List Pt), spanP M x n = some L → ∀ i, i < n → ∃ q, findP M ((x + i) / 256 * 256) = some q ∧ (bytesL M L).getD i 0 = q.b.getD ((x + i) % 256) 0 := by
  induction n using Nat.strongRecOn with
  | ind n ih =>
    intro x L h i hi
    have hz : n ≠ 0 := by omega
    obtain ⟨p, r, hp, hr, rfl⟩ := span_cons hz h
    obtain ⟨hm, ha⟩ := findP_mem hp
    have hl := (hM p hm).len
    have e : bytesL M (⟨x / 256 * 256, x % 256, min n (256 - x % 256)⟩ :: r) = (p.b.drop (x % 256)).take (min n (256 - x % 256)) ++ bytesL M r := by
      show bytesP M _ ++ _ = _
      unfold bytesP
      simp only [hp]
      rfl
    have hk : ((p.b.drop (x % 256)).take (min n (256 - x % 256))).length = min n (256 - x % 256) := by
      rw [List.length_take, List.length_drop, hl]; omega
    rw [e]
    by_cases hlt : i < min n (256 - x % 256)
    · refine ⟨p, by rw [show (x + i) / 256 * 256 = x / 256 * 256 by omega]; exact hp, ?_⟩
      rw [List.getD_eq_getElem?_getD, List.getElem?_append_left (by rw [hk]; exact hlt), List.getElem?_take, if_pos hlt, List.getElem?_drop, List.getD_eq_getElem?_getD, show x % 256 + i = (x + i) % 256 by omega]
    · obtain ⟨q, hq, hb⟩ := ih _ (by omega) _ r hr (i - min n (256 - x % 256)) (by omega)
      rw [show x + min n (256 - x % 256) + (i - min n (256 - x % 256)) = x + i by omega] at hq hb
      refine ⟨q, hq, ?_⟩
      rw [List.getD_eq_getElem?_getD, List.getElem?_append_right (by rw [hk]; omega), hk, ← List.getD_eq_getElem?_getD]
      exact hb
theorem span_top {M : List Pg} (hM : ∀ p ∈ M, p.Ok) {x n : Nat} {L : List Pt} (h : spanP M x n = some L) (hn : 0 < n) : x + n ≤ 4294967296 := by
  obtain ⟨q, hq, _⟩ := span_byte hM n x L h (n - 1) (by omega)
  obtain ⟨hm, ha⟩ := findP_mem hq
  have h1 := (hM q hm).al
  have h2 := (hM q hm).lt
  omega
theorem span_upd {M : List Pg} {a : Nat} {f : Pg → Pg} (hf : ∀ q, (f q).a = q.a) (n : Nat) : ∀ x, spanP (updP M a f) x n = spanP M x n := by
  induction n using Nat.strongRecOn with
  | ind n ih =>
    intro x
    by_cases hz : n = 0
    · subst hz
      rw [span_zero, span_zero]
    · have hfd := upd_find (M := M) (a := a) hf (x / 256 * 256)
      cases hp : findP M (x / 256 * 256) with
      | none =>
        rw [hp] at hfd
        rw [span_none hz hp, span_none hz hfd]
      | some p =>
        rw [hp] at hfd
        rw [span_some hz hp, span_some hz hfd, ih _ (by omega)]
theorem upd_comm {M : List Pg} {a b : Nat} {f g : Pg → Pg} (hf : ∀ q, (f q).a = q.a) (hg : ∀ q, (g q).a = q.a) (hc : ∀ q, f (g q) = g (f q)) : updP (updP M a g) b f = updP (updP M b f) a g := by
  unfold updP
  rw [List.map_map, List.map_map]
  refine List.map_congr_left fun q _ => ?_
  show (if (if q.a = a then g q else q).a = b then f (if q.a = a then g q else q) else (if q.a = a then g q else q)) = (if (if q.a = b then f q else q).a = a then g (if q.a = b then f q else q) else (if q.a = b then f q else q))
  have h1 : (if q.a = a then g q else q).a = q.a := by
    by_cases e : q.a = a
    · rw [if_pos e, hg]
    · rw [if_neg e]
  have h2 : (if q.a = b then f q else q).a = q.a := by
    by_cases e : q.a = b
    · rw [if_pos e, hf]
    · rw [if_neg e]
  rw [h1, h2]
  by_cases e1 : q.a = a
  · by_cases e2 : q.a = b
    · simp only [if_pos e1, if_pos e2, hc]
    · simp only [if_pos e1, if_neg e2]
  · by_cases e2 : q.a = b
    · simp only [if_neg e1, if_pos e2]
    · simp only [if_neg e1, if_neg e2]
theorem upd_twice {M : List Pg} {a : Nat} {f g : Pg → Pg} (hg : ∀ q, (g q).a = q.a) : updP (updP M a g) a f = updP M a (fun q => f (g q)) := by
  unfold updP
  rw [List.map_map]
  refine List.map_congr_left fun q _ => ?_
  show (if (if q.a = a then g q else q).a = a then f (if q.a = a then g q else q) else (if q.a = a then g q else q)) = (if q.a = a then f (g q) else q)
  by_cases e1 : q.a = a
  · simp only [if_pos e1]
    rw [if_pos (by rw [hg]; exact e1)]
  · simp only [if_neg e1]
theorem upd_const {M : List Pg} {a : Nat} {f : Pg → Pg} {q : Pg} (hn : (M.map (·.a)).Nodup) (hq : findP M a = some q) : updP M a (fun _ => f q) = updP M a f := by
  unfold updP
  refine List.map_congr_left fun p hp => ?_
  by_cases e : p.a = a
  · have := findP_of hn hp
    rw [e, hq] at this
    injection this with this
    rw [if_pos e, if_pos e, this]
  · rw [if_neg e, if_neg e]
theorem upd_none {M : List Pg} {a : Nat} {f : Pg → Pg} (h : findP M a = none) : updP M a f = M := by
  unfold updP
  conv => rhs; rw [← List.map_id M]
  refine List.map_congr_left fun p hp => ?_
  by_cases e : p.a = a
  · exfalso
    have : ∀ M : List Pg, p ∈ M → findP M p.a ≠ none := fun M => by
      induction M with
      | nil => intro h; cases h
      | cons q r ih =>
        intro h
        rw [findP_cons]
        by_cases e : q.a = p.a
        · rw [if_pos e]; exact fun h => by cases h
        · rw [if_neg e]
          rcases List.mem_cons.1 h with rfl | h
          · exact absurd rfl e
          · exact ih h
    exact this M hp (by rw [e]; exact h)
  · rw [if_neg e]; rfl
/-- Bytes written to a page. -/
def putD (d : Bool) (o : Nat) (bs : List Int) (p : Pg) : Pg := { p with b := laidB p.b o bs, dirty := p.dirty || d }
theorem putD_a (d : Bool) (o : Nat) (bs : List Int) (p : Pg) : (putD d o bs p).a = p.a := rfl
theorem putD_false (o : Nat) (bs : List Int) : putD false o bs = putPg o bs := by
  funext p
  unfold putD putPg
  rw [Bool.or_false]
theorem putD_true (o : Nat) (bs : List Int) : putD true o bs = fun p => setDirty (putPg o bs p) := by
  funext p
  unfold putD putPg setDirty
  rw [Bool.or_true]
/-- Bytes written from an address on. -/
def pokeW (d : Bool) (M : List Pg) (x : Nat) (bs : List Int) : List Pg :=
  if h : bs = [] then M else pokeW d (updP M (x / 256 * 256) (putD d (x % 256) (bs.take (min bs.length (256 - x % 256))))) (x + min bs.length (256 - x % 256)) (bs.drop (min bs.length (256 - x % 256)))
termination_by bs.length
decreasing_by
  have : bs.length ≠ 0 := fun e => h (List.length_eq_zero_iff.1 e)
  rw [List.length_drop]
  omega
theorem poke_nil (d : Bool) (M : List Pg) (x : Nat) : pokeW d M x [] = M := by rw [pokeW]; rfl
theorem poke_step {d : Bool} {M : List Pg} {x : Nat} {bs : List Int} (h : bs.length ≠ 0) : pokeW d M x bs = pokeW d (updP M (x / 256 * 256) (putD d (x % 256) (bs.take (min bs.length (256 - x % 256))))) (x + min bs.length (256 - x % 256)) (bs.drop (min bs.length (256 - x % 256))) := by
  rw [pokeW, dif_neg (fun e => h (by rw [e]; rfl))]
theorem fill_poke (n : Nat) : ∀ (M : List Pg) (x : Nat) (bs : List Int) (L : List Pt), bs.length = n → spanP M x bs.length = some L → fillM M L bs = pokeW false M x bs := by
  induction n using Nat.strongRecOn with
  | ind n ih =>
    intro M x bs L hn h
    by_cases hz : bs.length = 0
    · have hz2 : bs = [] := List.length_eq_zero_iff.1 hz
      subst hz2
      have h : spanP M x 0 = some L := h
      rw [span_zero] at h
      injection h with h
      subst h
      rw [poke_nil]; rfl
    · obtain ⟨p, r, hp, hr, rfl⟩ := span_cons hz h
      rw [poke_step hz, putD_false]
      have hd : (bs.drop (min bs.length (256 - x % 256))).length = bs.length - min bs.length (256 - x % 256) := List.length_drop ..
      exact ih (bs.length - min bs.length (256 - x % 256)) (by omega) _ _ _ r hd (by rw [hd]; exact (span_upd (f := putPg (x % 256) (bs.take (min bs.length (256 - x % 256)))) (fun _ => rfl) _ _).trans hr)
theorem fill_upd {a : Nat} {f : Pg → Pg} (hf : ∀ q, (f q).a = q.a) (hc : ∀ o bs q, f (putPg o bs q) = putPg o bs (f q)) : ∀ (M : List Pg) (L : List Pt) (bs : List Int), fillM (updP M a f) L bs = updP (fillM M L bs) a f
  | M, [], bs => rfl
  | M, p :: r, bs => by
    show fillM (updP (updP M a f) p.a _) r _ = updP (fillM (updP M p.a _) r _) a f
    rw [upd_comm (f := putPg p.o (bs.take p.n)) (g := f) (fun _ => rfl) hf (fun q => (hc _ _ q).symm), fill_upd hf hc]
theorem dirty_poke (n : Nat) : ∀ (M : List Pg) (x : Nat) (bs : List Int) (L : List Pt), bs.length = n → spanP M x bs.length = some L → mapL setDirty (fillM M L bs) L = pokeW true M x bs := by
  induction n using Nat.strongRecOn with
  | ind n ih =>
    intro M x bs L hn h
    by_cases hz : bs.length = 0
    · have hz2 : bs = [] := List.length_eq_zero_iff.1 hz
      subst hz2
      have h : spanP M x 0 = some L := h
      rw [span_zero] at h
      injection h with h
      subst h
      rw [poke_nil]; rfl
    · obtain ⟨p, r, hp, hr, rfl⟩ := span_cons hz h
      rw [poke_step hz, putD_true]
      have hd : (bs.drop (min bs.length (256 - x % 256))).length = bs.length - min bs.length (256 - x % 256) := List.length_drop ..
      rw [← ih (bs.length - min bs.length (256 - x % 256)) (by omega) _ _ _ r hd (by rw [hd]; exact (span_upd (f := fun p => setDirty (putPg (x % 256) (bs.take (min bs.length (256 - x % 256))) p)) (fun _ => rfl) _ _).trans hr)]
      show mapL setDirty (updP (fillM (updP M _ _) r _) _ setDirty) r = _
      rw [← fill_upd (f := setDirty) (fun _ => rfl) (fun _ _ _ => rfl), upd_twice (g := putPg _ _) (fun _ => rfl)]
end Go.Proofs.YtkhfmgifpppcmaaDoor
