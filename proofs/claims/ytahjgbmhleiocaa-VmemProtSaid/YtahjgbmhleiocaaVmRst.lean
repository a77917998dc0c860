/-
  What is proved here: the reference's number, Load, Fetch, Store. · the reference's Store.
  Conditions: as they say.
-/
import Derived.Test.YtahjgbmhleiocaaVmRft
import Derived.Test.YtahjgbmhleiocaaVmRpo
namespace Go.Proofs.Ytahjgbmhleiocaa
open Go.RowKit Go.WideMaps Go.Maps
set_option linter.unusedVariables false
set_option linter.unusedSimpArgs false

theorem num_drop {bs : List Int} {j : Nat} (h : j < bs.length) : num (bs.drop j) = bs.getD j 0 + 256 * num (bs.drop (j + 1)) := by
  rw [List.drop_eq_getElem_cons h, List.getD_eq_getElem?_getD, List.getElem?_eq_getElem h]
  rfl
set_option maxHeartbeats 3200000 in
set_option maxRecDepth 100000 in
theorem number_ok {w : World} {B : Nat} {a : Option Addr} {n c : Nat} {M : List Pg} (h : RAt w B a n c M) (hB : B ≤ w.heap.size) (x N : Nat) {L : List Pt} (hL : spanP M x N = some L) (h1 : 1 ≤ N) (h8 : N ≤ 8) :
    Calls Try.prog 45 #[mv a n c, .int .u64 x, .int .i64 N] w fun e w' => e = .returned (.int .u64 (num (bytesL M L))) ∧ Below w.heap.size w w' := by
  have hpk := rpeek_ok (h.below ((Below.refl _ _).alloc hB (.cells #[.slice a n c] 34))) (by simp; omega) x N hL (by omega) (by omega)
  have hbl : (bytesL M L).length = N := by rw [bytesL_len h.ok L (fun p hp => (span_good N x L hL p hp).1), span_len N x L hL]
  have hbd : ∀ z ∈ bytesL M L, 0 ≤ z ∧ z ≤ 255 := by
    intro z hz
    obtain ⟨i, hi, rfl⟩ := List.getElem_of_mem hz
    obtain ⟨q, hq, e⟩ := span_byte h.ok N x L hL i (by omega)
    rw [List.getD_eq_getElem?_getD, List.getElem?_eq_getElem hi] at e
    have hqo := h.ok q (findP_mem hq).1
    have e : (bytesL M L)[i] = q.b.getD ((x + i) % 256) 0 := e
    rw [e, List.getD_eq_getElem?_getD, List.getElem?_eq_getElem (by rw [hqo.len]; omega)]
    exact hqo.bd _ (List.getElem_mem _)
  obtain ⟨bs', hbs⟩ : ∃ bs', bytesL M L = bs' := ⟨_, rfl⟩
  rw [hbs] at hpk hbl hbd ⊢
  have HPK := Lib.hid hpk
  have HBL := Lib.hid hbl
  have HBD := Lib.hid hbd
  have BX := Lib.hid (Blk.new w #[.slice a n c] 34)
  have hc0 : (w.alloc (.cells #[.slice a n c] 34)).cell? ⟨w.heap.size, 0, none⟩ = some (.slice a n c) := BX.out.cell 0
  have HB1 : Hid (Below w.heap.size w (w.alloc (.cells #[.slice a n c] 34))) := Lib.hid ((Below.refl _ _).alloc (Nat.le_refl _) _)
  have hwn : IntKind.u64.wrap (N : Int) = N := by rw [IntKind.wrap_u64]; omega
  unfold mv at *
  clear h hB hpk hbl hbd hbs hL
  go_enter Try.func45, Try.ntmps45
  go_wp2_with fail
  refine HPK.out.mono ?_
  rintro r1 w1 ⟨v, rfl, hv, hb1⟩
  rw [HBL.out] at hv
  obtain ⟨va, vc, rfl⟩ := own_slp hv
  have HBY := Lib.hid (Bys.own HBD.out hv)
  have HBE : Hid (Below w.heap.size w w1) := Lib.hid (HB1.out.trans (hb1.mono (by simp)))
  clear hv hb1 hc0 HPK
  go_wp2
  go_loop [9, 10] (fun s i => ∃ k : Nat, k ≤ N ∧ i = .int .i64 ((N : Int) - 1 - (k : Int)) ∧ s = .int .u64 (num (bs'.drop (N - k)))) (fun s i => (intOf i + 1).toNat)
  case atStart => exact ⟨0, Nat.zero_le _, by go_num, by rw [Nat.sub_zero, List.drop_eq_nil_of_le (by rw [HBL.out]; exact Nat.le_refl _)]; rfl⟩
  case round =>
    obtain ⟨k, hk, rfl, rfl⟩ := hrel
    by_cases hlt : k < N
    · have hge : (0 : Int) ≤ (N : Int) - 1 - (k : Int) := by omega
      obtain ⟨gb, go, rfl, hgl, hgc⟩ := HBY.out.2.2 (by omega)
      have hcc := hgc (N - 1 - k) (by omega)
      have hnd := num_drop (bs := bs') (j := N - 1 - k) (by rw [HBL.out]; omega)
      rw [show N - 1 - k + 1 = N - k by omega] at hnd
      have hbz : 0 ≤ bs'.getD (N - 1 - k) 0 ∧ bs'.getD (N - 1 - k) 0 ≤ 255 := by
        rw [List.getD_eq_getElem?_getD, List.getElem?_eq_getElem (by rw [HBL.out]; omega)]
        exact HBD.out _ (List.getElem_mem _)
      have hdl : (bs'.drop (N - k)).length = k := by rw [List.length_drop, HBL.out]; omega
      have hnb := num_bd (l := bs'.drop (N - k)) (fun z hz => HBD.out z (List.mem_of_mem_drop hz))
      rw [hdl] at hnb
      obtain ⟨y, hy⟩ : ∃ y, num (bs'.drop (N - k)) = y := ⟨_, rfl⟩
      obtain ⟨z, hz⟩ : ∃ z, bs'.getD (N - 1 - k) 0 = z := ⟨_, rfl⟩
      rw [hy] at hnd hnb ⊢
      rw [hz] at hnd hbz hcc
      have hms := mul_step (y := y) (c := z) (m := k) (by omega) hnb.1 hnb.2 hbz.1 hbz.2
      have HND : Hid (y * 256 + z = num (bs'.drop (N - (k + 1)))) := Lib.hid (by rw [show N - (k + 1) = N - 1 - k by omega, hnd]; omega)
      have HLT := Lib.hid hlt
      have hwa : IntKind.u64.wrap (y * 256) = y * 256 := by rw [IntKind.wrap_u64]; omega
      have hwb : IntKind.u64.wrap (y * 256 + z) = y * 256 + z := by rw [IntKind.wrap_u64]; omega
      have hwz : IntKind.u64.wrap z = z := by rw [IntKind.wrap_u64]; omega
      have hlen : (N : Int) - 1 - (k : Int) < N := by omega
      clear hgc hnd hnb hy hz hdl
      go_wp2
      refine ⟨⟨k + 1, HLT.out, by go_num, by rw [← HND.out]⟩, by have := HLT.out; simp [intOf]; omega⟩
    · have hge : ¬ (0 : Int) ≤ (N : Int) - 1 - (k : Int) := by omega
      obtain rfl : k = N := by omega
      have HE : Hid (bs'.drop (k - k) = bs') := Lib.hid (by rw [Nat.sub_self, List.drop_zero])
      go_wp2
      go_ret
      exact ⟨by first | rfl | (rw [HE.out]; rfl) | (simp only [Nat.sub_self, List.drop_zero]; rfl), HBE.out⟩
set_option maxHeartbeats 3200000 in
set_option maxRecDepth 100000 in
theorem rload_ok {w : World} {B : Nat} {a : Option Addr} {n c : Nat} {M : List Pg} (h : RAt w B a n c M) (hB : B ≤ w.heap.size) (x : Nat) (x1 : x ≤ 18446744073709551615) (N : Nat) (hw : isW (N : Int)) :
    Calls Try.prog 24 #[mv a n c, .int .u64 x, .int .i64 N] w fun e w' => e = .returned (.tuple #[.int .u64 (loadR M x N 4).1, .int .i64 (loadR M x N 4).2]) ∧ Below w.heap.size w w' := by
  have HH := Lib.hid h
  have HB := Lib.hid hB
  have HW := Lib.hid hw
  have HFT := Lib.hid (fits4_ok (h.below ((Below.refl _ _).alloc hB (.cells #[.slice a n c] 34))) (by simp; omega) x x1 N hw)
  have hel := acc_else (M := M) (x := x) (n := N) (r := 4)
  have hze := acc_zero (M := M) (x := x) (n := N) (r := 4)
  unfold fitsZ at HFT
  unfold loadR
  obtain ⟨R, hR⟩ : ∃ R, accR M x N 4 = R := ⟨_, rfl⟩
  rw [hR] at HFT hel hze ⊢
  obtain ⟨E, L⟩ := R
  simp only at HFT hel hze ⊢
  have BX := Lib.hid (Blk.new w #[.slice a n c] 34)
  have hc0 : (w.alloc (.cells #[.slice a n c] 34)).cell? ⟨w.heap.size, 0, none⟩ = some (.slice a n c) := BX.out.cell 0
  have HB1 : Hid (Below w.heap.size w (w.alloc (.cells #[.slice a n c] 34))) := Lib.hid ((Below.refl _ _).alloc (Nat.le_refl _) _)
  unfold mv at *
  clear h hB hR hw
  by_cases h0 : E = 0
  · subst h0
    rw [if_pos rfl]
    have HL := Lib.hid (hze rfl).2
    clear hel hze
    go_enter Try.func24, Try.ntmps24
    go_wp2_with fail
    refine HFT.out.mono ?_
    rintro r1 w1 ⟨rfl, hb1⟩
    have HBE : Hid (Below w.heap.size w w1) := Lib.hid (HB1.out.trans (hb1.mono (by simp)))
    have c1 : w1.cell? ⟨w.heap.size, 0, none⟩ = some (.slice a n c) := (BX.out.below hb1 (by simp)).cell 0
    have hl := HL.out
    rw [Int.toNat_natCast] at hl
    have HNB := Lib.hid (number_ok (HH.out.below (HBE.out.mono HB.out)) (Nat.le_trans HB.out HBE.out.size) x N hl (by have := HW.out; unfold isW at this; omega) (by have := HW.out; unfold isW at this; omega))
    unfold mv at HNB
    clear hb1 hc0 HFT hl
    go_wp2_with fail
    refine HNB.out.mono ?_
    rintro r2 w2 ⟨rfl, hb2⟩
    have HBF : Hid (Below w.heap.size w w2) := Lib.hid (HBE.out.trans (hb2.mono HBE.out.size))
    clear hb2 HNB c1
    go_wp2
    go_ret2
    exact ⟨rfl, HBF.out⟩
  · rw [if_neg h0]
    have HE := Lib.hid (hel h0)
    clear hel hze h0
    rcases HE.out with rfl | rfl | rfl
    all_goals
      go_enter Try.func24, Try.ntmps24
      go_wp2_with fail
      refine HFT.out.mono ?_
      rintro r1 w1 ⟨rfl, hb1⟩
      have HBE : Hid (Below w.heap.size w w1) := Lib.hid (HB1.out.trans (hb1.mono (by simp)))
      clear hb1 hc0 HFT
      go_wp2
      go_ret2
      exact ⟨rfl, HBE.out⟩
set_option maxHeartbeats 3200000 in
set_option maxRecDepth 100000 in
theorem rfetch_ok {w : World} {B : Nat} {a : Option Addr} {n c : Nat} {M : List Pg} (h : RAt w B a n c M) (hB : B ≤ w.heap.size) (x : Nat) (x1 : x ≤ 18446744073709551615) :
    Calls Try.prog 25 #[mv a n c, .int .u64 x] w fun e w' => e = .returned (.tuple #[.int .u64 (fetchR M x).1, .int .i64 (fetchR M x).2]) ∧ Below w.heap.size w w' := by
  have HH := Lib.hid h
  have HB := Lib.hid hB
  have BX := Lib.hid (Blk.new w #[.slice a n c] 34)
  have hc0 : (w.alloc (.cells #[.slice a n c] 34)).cell? ⟨w.heap.size, 0, none⟩ = some (.slice a n c) := BX.out.cell 0
  have HB1 : Hid (Below w.heap.size w (w.alloc (.cells #[.slice a n c] 34))) := Lib.hid ((Below.refl _ _).alloc (Nat.le_refl _) _)
  have HFT := Lib.hid (fits1_8 (h.below ((Below.refl _ _).alloc hB (.cells #[.slice a n c] 34))) (by simp; omega) x x1)
  unfold fetchR
  unfold mv at *
  clear h hB
  by_cases hx : x % 8 = 0
  · rw [if_pos hx]
    have hxi : (x : Int) % 8 = 0 := by omega
    have hxb : ((x : Int) % 8 == 0) = true := by simp; omega
    have hel := acc_else (M := M) (x := x) (n := 8) (r := 1)
    have hze := acc_zero (M := M) (x := x) (n := 8) (r := 1)
    unfold fitsZ at HFT
    unfold loadR
    obtain ⟨R, hR⟩ : ∃ R, accR M x 8 1 = R := ⟨_, rfl⟩
    rw [hR] at HFT hel hze ⊢
    obtain ⟨E, L⟩ := R
    simp only at HFT hel hze ⊢
    clear hR hx
    by_cases h0 : E = 0
    · subst h0
      rw [if_pos rfl]
      have HL := Lib.hid (hze rfl).2
      clear hel hze
      go_enter Try.func25, Try.ntmps25
      go_wp2_with fail
      refine HFT.out.mono ?_
      rintro r1 w1 ⟨rfl, hb1⟩
      have HBE : Hid (Below w.heap.size w w1) := Lib.hid (HB1.out.trans (hb1.mono (by simp)))
      have c1 : w1.cell? ⟨w.heap.size, 0, none⟩ = some (.slice a n c) := (BX.out.below hb1 (by simp)).cell 0
      have HNB := Lib.hid (number_ok (HH.out.below (HBE.out.mono HB.out)) (Nat.le_trans HB.out HBE.out.size) x 8 HL.out (by omega) (by omega))
      unfold mv at HNB
      clear hb1 hc0 HFT
      go_wp2_with fail
      refine HNB.out.mono ?_
      rintro r2 w2 ⟨rfl, hb2⟩
      have HBF : Hid (Below w.heap.size w w2) := Lib.hid (HBE.out.trans (hb2.mono HBE.out.size))
      clear hb2 HNB c1
      go_wp2
      go_ret2
      exact ⟨rfl, HBF.out⟩
    · rw [if_neg h0]
      have HE := Lib.hid (hel h0)
      clear hel hze h0
      rcases HE.out with rfl | rfl | rfl
      all_goals
        go_enter Try.func25, Try.ntmps25
        go_wp2_with fail
        refine HFT.out.mono ?_
        rintro r1 w1 ⟨rfl, hb1⟩
        have HBE : Hid (Below w.heap.size w w1) := Lib.hid (HB1.out.trans (hb1.mono (by simp)))
        clear hb1 hc0 HFT
        go_wp2
        go_ret2
        exact ⟨rfl, HBE.out⟩
  · rw [if_neg hx]
    have hxi : ¬ (x : Int) % 8 = 0 := by omega
    have hxb : ((x : Int) % 8 == 0) = false := by simp; omega
    clear hx HFT
    go_enter Try.func25, Try.ntmps25
    go_wp2
    go_ret2
    exact ⟨rfl, HB1.out⟩
end Go.Proofs.Ytahjgbmhleiocaa
namespace Go.Proofs.Ytahjgbmhleiocaa
open Go.RowKit Go.WideMaps Go.Maps
set_option linter.unusedVariables false
set_option linter.unusedSimpArgs false

set_option maxHeartbeats 6400000 in
set_option maxRecDepth 100000 in
theorem rstore_ok {w : World} {B : Nat} {a : Option Addr} {n c : Nat} {M : List Pg} (h : RAt w B a n c M) (hB : B ≤ w.heap.size) (x : Nat) (x1 : x ≤ 18446744073709551615) (N : Nat) (hw : isW (N : Int)) (u : Int) (u0 : 0 ≤ u) (u1 : u ≤ 18446744073709551615) :
    Calls Try.prog 23 #[mv a n c, .int .u64 x, .int .i64 N, .int .u64 u] w fun e w' => ∃ a' n' c', e = .returned (.tuple #[mv a' n' c', .int .i64 (storeR M x N u).2]) ∧ RAt w' w'.heap.size a' n' c' (storeR M x N u).1 ∧ Below w.heap.size w w' := by
  have HH := Lib.hid h
  have HB := Lib.hid hB
  have HW := Lib.hid hw
  obtain ⟨R, hR⟩ : ∃ R, storeR M x N u = R := ⟨_, rfl⟩
  have hsi := store_is (M := M) (x := x) (n := N) (u := u)
  rw [hR, Int.toNat_natCast] at hsi
  rw [hR]
  have HSI := Lib.hid hsi
  obtain ⟨w1, hw1⟩ : ∃ w1, (w.alloc (.cells #[.slice a n c] 34)).alloc (.cells #[.slice none 0 0] 34) = w1 := ⟨_, rfl⟩
  have hz1 : w1.heap.size = w.heap.size + 2 := by rw [← hw1]; simp
  have B1 : Hid (Blk w1 w.heap.size #[.slice a n c] 34) := Lib.hid (by rw [← hw1]; exact (Blk.new w _ _).alloc _)
  have B2 : Hid (Blk w1 (w.heap.size + 1) #[.slice none 0 0] 34) := Lib.hid (by
    rw [← hw1]
    have := Blk.new (w.alloc (.cells #[.slice a n c] 34)) #[.slice none 0 0] 34
    rw [World.size_alloc] at this
    exact this)
  have HWB : Hid (Below w.heap.size w w1) := Lib.hid (by rw [← hw1]; exact ((Below.refl _ _).alloc (Nat.le_refl _) _).alloc (by rw [World.size_alloc]; omega) _)
  have HRT : Hid (∀ (wx : World) (a' : Option Addr) (n' c' : Nat) (N : List Pg), RAt wx wx.heap.size a' n' c' N → Below w.heap.size w wx → Blk wx (w.heap.size + 1) #[.slice none 0 0] 34 → RAt (wx.setCell ⟨w.heap.size + 1, 0, none⟩ (.slice a' n' c')) (wx.setCell ⟨w.heap.size + 1, 0, none⟩ (.slice a' n' c')).heap.size a' n' c' N ∧ Below w.heap.size w (wx.setCell ⟨w.heap.size + 1, 0, none⟩ (.slice a' n' c'))) := Lib.hid (fun wx a' n' c' N h1 h2 h3 => by
    refine ⟨?_, h2.setCell (p := ⟨w.heap.size + 1, 0, none⟩) (by show w.heap.size ≤ w.heap.size + 1; omega) _⟩
    have := h1.setBox h3 (.slice a' n' c')
    rw [World.size_setCell]; exact this)
  have HEE : Hid (∀ (wx : World) (a' : Option Addr) (n' c' : Nat), Blk wx (w.heap.size + 1) #[.slice none 0 0] 34 → (wx.setCell ⟨w.heap.size + 1, 0, none⟩ (.slice a' n' c')).cell? ⟨w.heap.size + 1, 0, none⟩ = some (.slice a' n' c')) := Lib.hid (fun wx a' n' c' hx => World.cell?_setCell_same' _ _ _ (by rw [hx.cell 0]; rfl))
  have hra1 := (h.below (HWB.out.mono hB)).more (Nat.le_trans hB HWB.out.size)
  have HRA1 := Lib.hid hra1
  have HFT := Lib.hid (fits2_ok hra1 (Nat.le_refl _) x x1 N hw)
  have k1 := B1.out.cell 0
  have f2 := B2.out.frozen 0
  have k2 := B2.out.cell 0
  obtain ⟨E, hE⟩ : ∃ E, fitsZ M x N 2 = E := ⟨_, rfl⟩
  rw [hE] at hsi HFT
  have hel := acc_else (M := M) (x := x) (n := N) (r := 2)
  have hze := acc_zero (M := M) (x := x) (n := N) (r := 2)
  rw [show (accR M x N 2).1 = E from hE] at hel hze
  have hn8 : 1 ≤ N ∧ N ≤ 8 := by unfold isW at hw; omega
  have HX1 := Lib.hid x1
  unfold mv at *
  clear hR hz1 hra1 h hB hw HSI hE
  by_cases h0 : E = 0
  · subst h0
    rw [if_pos rfl] at hsi
    have HSI := Lib.hid hsi
    have HL := Lib.hid (hze rfl).2
    clear hel hze hsi
    go_enter Try.func23, Try.ntmps23
    go_wp2_with fail
    refine HFT.out.mono ?_
    rintro r w2 ⟨rfl, hb2⟩
    have HB2 := Lib.hid hb2
    have HW2 := Lib.hid (HWB.out.trans (hb2.mono HWB.out.size))
    have HK1 := Lib.hid (B1.out.later hb2)
    have HK2 := Lib.hid (B2.out.later hb2)
    clear hb2 k1 k2 f2 hw1 HFT
    obtain ⟨i0, hi, hz0, hz1, hz2⟩ := info_parts info_u8
    have HI := Lib.hid hi
    have HZ0 := Lib.hid hz0
    have HZ1 := Lib.hid hz1
    have HZ2 := Lib.hid hz2
    clear hi hz0 hz1 hz2
    go_wp2
    go_loopw [3, 11, 12] (fun q v i wr => ∃ k : Nat, k ≤ N ∧ i = .int .i64 k ∧ q = .int .u64 (u / 256 ^ k) ∧ Hid (wr.ownsRow w2.heap.size 5 1 v k ((digs u k).map (Value.int .u8))) ∧ Hid (Below w2.heap.size w2 wr)) (fun _ _ i _ => N - (intOf i).toNat)
    case atStart => exact ⟨0, Nat.zero_le _, by go_num, by simp, Lib.hid (World.ownsRow_nil _ _ _ _), Lib.hid (Below.refl _ _)⟩
    case round =>
      obtain ⟨k, hk, rfl, rfl, HO, HBW⟩ := hrel
      obtain ⟨la, lc, rfl⟩ := own_slp HO.out
      by_cases hlt : k < N
      · have hlti : (k : Int) < N := by omega
        have hq0 : 0 ≤ u / 256 ^ k := Int.ediv_nonneg u0 (Int.pow_nonneg (by decide))
        have hq1 : u / 256 ^ k ≤ 18446744073709551615 := Int.le_trans (Int.ediv_le_self _ u0) u1
        have hds := div_step u k
        have hdg : digs u (k + 1) = digs u k ++ [u / 256 ^ k % 256] := rfl
        obtain ⟨y, hy⟩ : ∃ y, u / 256 ^ k = y := ⟨_, rfl⟩
        rw [hy] at hq0 hq1 hds hdg ⊢
        have HDS := Lib.hid hds
        have HDG := Lib.hid hdg
        have HLT := Lib.hid hlt
        have hwy : IntKind.u8.wrap (y % 256) = y % 256 := by rw [IntKind.wrap_u8]; omega
        have hszr := HBW.out.size
        clear hy hds hdg hlt hk
        go_wp2_with (at_builtin; refine wpList_append_own _ rfl _ _ 25 rfl w2.heap.size 5 i0 (.int .u8 0) 1 1 Try.underlying25 HI.out HZ0.out HZ1.out HZ2.out rfl (by decide) _ k ((digs u k).map (Value.int .u8)) rfl (HO.out.alloc _) ⟨wr.heap.size, 0, none⟩ 1 1 [.int .u8 (y % 256)] rfl rfl ?c1 ?c2 ?c3 ?c4 ?c5 ?_)
        case c1 => exact cell_one_new _ _ _
        case c2 => intro u hu; obtain rfl := List.mem_singleton.1 hu; rfl
        case c3 => unfold maxLen; omega
        case c4 => omega
        case c5 => simp; omega
        intro v' w3 hown3 hg3 _
        have HB3 : Hid (Below w2.heap.size w2 w3) := Lib.hid ((HBW.out.alloc HBW.out.size _).grown hg3 (by simp; omega) (fun q e => (HO.out.lt q e).1))
        have HO3 : Hid (w3.ownsRow w2.heap.size 5 1 v' (k + 1) ((digs u (k + 1)).map (Value.int .u8))) := Lib.hid (by
          rw [HDG.out, List.map_append]; exact hown3)
        clear hown3 hg3
        go_wp2
        go_roundw
        case rel => exact ⟨k + 1, HLT.out, by go_num, by rw [← HDS.out], HO3, HB3⟩
        case measure => have := HLT.out; simp [intOf]; omega
      · have hlti : ¬ (k : Int) < N := by omega
        obtain rfl : k = N := by omega
        have HWR : Hid (Below w.heap.size w wr) := Lib.hid (HW2.out.trans (HBW.out.mono HW2.out.size))
        have HR1 := Lib.hid (HK1.out.later HBW.out)
        have HR2 := Lib.hid (HK2.out.later HBW.out)
        have k1 := HR1.out.cell 0
        have hbr : Below w1.heap.size w1 wr := HB2.out.trans (HBW.out.mono HB2.out.size)
        have hby := (Bys.own (digs_bd u k) HO.out)
        have hlc : k ≤ lc ∧ (lc : Int) ≤ 9223372036854775807 := by
          rcases HO.out.2 with ⟨e0, e1⟩ | ⟨g, cap, cur, hv, _, hg, h1, h2, _⟩
          · injection e0 with _ _ e3
            subst e3
            exact ⟨by omega, by omega⟩
          · injection hv with _ _ e3
            subst e3
            exact ⟨by omega, by unfold maxLen at h2; omega⟩
        have hpo := rpoke_ok (HRA1.out.below hbr) hbr.size x HX1.out (digs u k) la k lc hby hlc.1 hlc.2 (by omega) true
        have hpr : rpokeR true M x (digs u k) = R := by
          unfold rpokeR
          have hl := HL.out
          rw [Int.toNat_natCast] at hl
          rw [digs_len, if_neg (by omega), hl]
          exact (if_pos rfl).trans HSI.out.symm
        rw [hpr] at hpo
        have HPO := Lib.hid hpo
        unfold mv at HPO
        clear hby hlc hpo hpr hbr
        go_wp2_with fail
        refine HPO.out.mono ?_
        rintro r w4 ⟨a2, n2, c2, rfl, hra, hb4⟩
        have HR4 := Lib.hid (HR2.out.later hb4)
        have hx := HRT.out w4 a2 n2 c2 R.1 hra (HWR.out.trans (hb4.mono HWR.out.size)) HR4.out
        have HX := Lib.hid hx
        have e1 := HEE.out w4 a2 n2 c2 HR4.out
        have q2 := HR4.out.cell 0
        have f2 := HR4.out.frozen 0
        have HE2 : Hid (R.2 = 0) := Lib.hid (by rw [HSI.out])
        clear hra hb4 hx k1
        go_wp2
        refine bodyPost_ret (v := .tuple #[.agg #[.slice a2 n2 c2], .int .i64 R.2]) (by simp [results, Try.results23, go_sem, e1]) rfl ?_
        exact ⟨a2, n2, c2, rfl, HX.out⟩
  · rw [if_neg h0] at hsi
    have HSI := Lib.hid hsi
    have HE := Lib.hid (hel h0)
    clear hel hze h0 hsi
    rcases HE.out with rfl | rfl | rfl
    all_goals
      go_enter Try.func23, Try.ntmps23
      go_wp2_with fail
      refine HFT.out.mono ?_
      rintro r w2 ⟨rfl, hb2⟩
      have HB2 := Lib.hid hb2
      have HW2 := Lib.hid (HWB.out.trans (hb2.mono HWB.out.size))
      have HK1 := Lib.hid (B1.out.later hb2)
      have HK2 := Lib.hid (B2.out.later hb2)
      clear hb2 k1 k2 f2 hw1 HFT
      have k1 := HK1.out.cell 0
      have k2 := HK2.out.cell 0
      have f2 := HK2.out.frozen 0
      have e1 := HEE.out w2 a n c HK2.out
      have HX := Lib.hid (HRT.out w2 a n c M ((HRA1.out.below HB2.out).more HB2.out.size) HW2.out HK2.out)
      go_wp2
      refine bodyPost_ret (v := .tuple #[.agg #[.slice a n c], .int .i64 R.2]) (by rw [HSI.out]; simp [results, Try.results23, go_sem, e1]) rfl ?_
      refine ⟨a, n, c, rfl, ?_⟩
      rw [HSI.out]
      exact HX.out
end Go.Proofs.Ytahjgbmhleiocaa
