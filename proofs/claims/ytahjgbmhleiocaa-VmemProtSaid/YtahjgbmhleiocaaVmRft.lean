/-
  What is proved here: plain words: a span of at most eight bytes lies on the page of its first and on the page of its last byte; what the reference's fits, Load and Store say in the words of package vmem. · the reference's fits, for each of the three things that may be done. · the reference's Peek of a span that is there.
  Conditions: as they say.
-/
import Derived.Test.YtahjgbmhleiocaaVmSto
import Derived.Test.YtahjgbmhleiocaaVmSlm
import Derived.Test.YtahjgbmhleiocaaVmRm
import Derived.Test.YtahjgbmhleiocaaFWords
import Derived.Laws.AppendOwn
import Derived.Laws.Strings
namespace Go.Proofs.Ytahjgbmhleiocaa
open Go.RowKit Go.WideMaps Go.Maps
set_option linter.unusedVariables false
set_option linter.unusedSimpArgs false

/-- May not all be done with the page of an address? -/
def denyA (M : List Pg) (r : Int) (x : Nat) : Bool := denyP M r ⟨x / 256 * 256, 0, 0⟩
theorem denyA_of {M : List Pg} {r : Int} {x : Nat} {q : Pg} (h : findP M (x / 256 * 256) = some q) : denyA M r x = (bits .and .i64 q.prot r == 0) := by
  unfold denyA denyP
  rw [h]
theorem any_ends {M : List Pg} {r : Int} {x N : Nat} {L : List Pt} (hs : spanP M x N = some L) (h1 : 1 ≤ N) (h8 : N ≤ 8) : L.any (denyP M r) = (denyA M r x || denyA M r (x + N - 1)) := by
  cases hf : findP M (x / 256 * 256) with
  | none => rw [span_none (by omega) hf] at hs; cases hs
  | some q =>
    rw [span_some (by omega) hf] at hs
    by_cases hN : N ≤ 256 - x % 256
    · have hm : min N (256 - x % 256) = N := by omega
      rw [hm, Nat.sub_self, span_zero] at hs
      have hs : [(⟨x / 256 * 256, x % 256, N⟩ : Pt)] = L := by simpa using hs
      subst hs
      have e : (x + N - 1) / 256 * 256 = x / 256 * 256 := by omega
      unfold denyA
      rw [e]
      simp [denyP]
    · have hm : min N (256 - x % 256) = 256 - x % 256 := by omega
      rw [hm] at hs
      cases hf2 : findP M ((x + (256 - x % 256)) / 256 * 256) with
      | none => rw [span_none (by omega) hf2] at hs; simp at hs
      | some q2 =>
        rw [span_some (by omega) hf2] at hs
        have hm2 : min (N - (256 - x % 256)) (256 - (x + (256 - x % 256)) % 256) = N - (256 - x % 256) := by omega
        rw [hm2, Nat.sub_self, span_zero] at hs
        have hs : [(⟨x / 256 * 256, x % 256, 256 - x % 256⟩ : Pt), ⟨(x + (256 - x % 256)) / 256 * 256, (x + (256 - x % 256)) % 256, N - (256 - x % 256)⟩] = L := by simpa using hs
        subst hs
        have e : (x + N - 1) / 256 * 256 = (x + (256 - x % 256)) / 256 * 256 := by omega
        unfold denyA
        rw [e]
        simp [denyP]
theorem prot_bit {q r : Int} (h0 : 0 ≤ q) (h7 : q ≤ 7) (hr : r = 1 ∨ r = 2 ∨ r = 4) : (bits .and .i64 q r == 0) = (q / r % 2 == 0) := by
  have : q = 0 ∨ q = 1 ∨ q = 2 ∨ q = 3 ∨ q = 4 ∨ q = 5 ∨ q = 6 ∨ q = 7 := by omega
  rcases hr with rfl | rfl | rfl <;> rcases this with rfl | rfl | rfl | rfl | rfl | rfl | rfl | rfl <;> decide
/-- The error of a number's span. -/
def fitsZ (M : List Pg) (x : Nat) (n r : Int) : Int := (accR M x n r).1
theorem fits_no {M : List Pg} {x : Nat} {n r : Int} (h : ¬ isW n) : fitsZ M x n r = 1 := by unfold fitsZ accR; rw [if_neg h]
theorem fits_none {M : List Pg} {x : Nat} {n r : Int} (h : isW n) (hs : (spanP M x n.toNat).isSome = false) : fitsZ M x n r = 40 := by
  unfold fitsZ accR
  rw [if_pos h]
  cases he : spanP M x n.toNat with
  | none => rfl
  | some L => rw [he] at hs; cases hs
theorem fits_some {M : List Pg} {x : Nat} {n r : Int} (h : isW n) (hs : (spanP M x n.toNat).isSome = true) : fitsZ M x n r = if denyA M r x || denyA M r (x + n.toNat - 1) then 41 else 0 := by
  unfold fitsZ accR
  rw [if_pos h]
  cases he : spanP M x n.toNat with
  | none => rw [he] at hs; cases hs
  | some L =>
    show (if L.any (denyP M r) = true then ((41 : Int), ([] : List Pt)) else (0, L)).1 = _
    rw [any_ends he (by unfold isW at h; omega) (by unfold isW at h; omega)]
    split <;> rfl
theorem span_ends {M : List Pg} {x N : Nat} (hs : (spanP M x N).isSome = true) (h1 : 1 ≤ N) (h8 : N ≤ 8) : (∃ q, findP M (x / 256 * 256) = some q) ∧ ∃ q, findP M ((x + N - 1) / 256 * 256) = some q := by
  have h := (span_all N x).1 hs
  have a := h 0 (by omega)
  have b := h (N - 1) (by omega)
  rw [Nat.add_zero] at a
  rw [show x + (N - 1) = x + N - 1 by omega] at b
  exact ⟨Option.isSome_iff_exists.1 a, Option.isSome_iff_exists.1 b⟩
/-- What Store makes of memory, by bytes. -/
theorem store_is {M : List Pg} {x : Nat} {n u : Int} : storeR M x n u = if fitsZ M x n 2 = 0 then (pokeW true M x (digs u n.toNat), 0) else (M, fitsZ M x n 2) := by
  unfold storeR fitsZ
  by_cases h0 : (accR M x n 2).1 = 0
  · rw [if_pos h0, if_pos h0]
    obtain ⟨hw, hs⟩ := acc_zero h0
    rw [dirty_poke n.toNat M x _ _ (digs_len u n.toNat) (by rw [digs_len]; exact hs)]
  · rw [if_neg h0, if_neg h0]
end Go.Proofs.Ytahjgbmhleiocaa
namespace Go.Proofs.Ytahjgbmhleiocaa
open Go.RowKit Go.WideMaps Go.Maps
set_option linter.unusedVariables false
set_option linter.unusedSimpArgs false

/-- A box of a page in a region: made by operation i, filled by j, told by slot t. -/
structure PBx (wr : World) (PC : Array Value) (i j t : Nat) (L : Nat → Bool) (y : Nat → Value) (w9 : World) : Prop where
  bel : Below wr.heap.size wr w9
  a : L i = true → ∃ g, y t = .pointer (some ⟨g, 0, none⟩) ∧ wr.heap.size ≤ g ∧ (L j = false → Blk w9 g #[.int .u64 0, .int .i64 0, .bool false, .string .empty, .int .u64 0, .string .empty] 66) ∧ (L j = true → Blk w9 g PC 66)
theorem PBx.alloc {wr w9 : World} {PC : Array Value} {i j t : Nat} {L L' : Nat → Bool} {y y' : Nat → Value} (h : PBx wr PC i j t L y w9) (o : Obj) (h0 : L' i = L i) (h1 : L' j = L j) (hy : y' t = y t) : PBx wr PC i j t L' y' (w9.alloc o) :=
  ⟨h.bel.alloc h.bel.size o, fun q => by
    obtain ⟨g, e1, e2, e3, e4⟩ := h.a (h0 ▸ q)
    exact ⟨g, hy.trans e1, e2, fun q => (e3 (h1 ▸ q)).alloc o, fun q => (e4 (h1 ▸ q)).alloc o⟩⟩
theorem PBx.stored {wr w9 : World} {g i j t : Nat} {v0 v1 v2 v3 v4 v5 : Value} {L' : Nat → Bool} {y' : Nat → Value} (hb : Below wr.heap.size wr w9) (hz : Blk w9 g #[.int .u64 0, .int .i64 0, .bool false, .string .empty, .int .u64 0, .string .empty] 66) (hge : wr.heap.size ≤ g) (hy : y' t = .pointer (some ⟨g, 0, none⟩)) (h1 : L' j = true) :
    PBx wr #[v0, v1, v2, v3, v4, v5] i j t L' y' ((((((w9.setCell ⟨g, 0, none⟩ v0).setCell ⟨g, 1, none⟩ v1).setCell ⟨g, 2, none⟩ v2).setCell ⟨g, 3, none⟩ v3).setCell ⟨g, 4, none⟩ v4).setCell ⟨g, 5, none⟩ v5) :=
  ⟨(((((hb.setCell (p := ⟨g, 0, none⟩) hge v0).setCell (p := ⟨g, 1, none⟩) hge v1).setCell (p := ⟨g, 2, none⟩) hge v2).setCell (p := ⟨g, 3, none⟩) hge v3).setCell (p := ⟨g, 4, none⟩) hge v4).setCell (p := ⟨g, 5, none⟩) hge v5, fun _ => ⟨g, hy, hge, (fun q => by rw [h1] at q; cases q), fun _ => ((((((hz.put 0 v0).put 1 v1).put 2 v2).put 3 v3).put 4 v4).put 5 v5)⟩⟩
theorem frFt (y : Nat → Value) : frameOf 65 y = #[y 0, y 1, y 2, y 3, y 4, y 5, y 6, y 7, y 8, y 9, y 10, y 11, y 12, y 13, y 14, y 15, y 16, y 17, y 18, y 19, y 20, y 21, y 22, y 23, y 24, y 25, y 26, y 27, y 28, y 29, y 30, y 31, y 32, y 33, y 34, y 35, y 36, y 37, y 38, y 39, y 40, y 41, y 42, y 43, y 44, y 45, y 46, y 47, y 48, y 49, y 50, y 51, y 52, y 53, y 54, y 55, y 56, y 57, y 58, y 59, y 60, y 61, y 62, y 63, y 64] := rfl
/-- What find says in any later world. -/
def FindsAt (wr : World) (b off n c x i : Nat) : Prop := ∀ wx, Below wr.heap.size wr wx → Calls Try.prog 53 #[.agg #[.slice (some ⟨b, off, none⟩) n c], .int .u64 (x : Int)] wx fun e w' => e = .returned (.int .i64 (i : Int)) ∧ w' = wx.alloc (.cells #[.slice (some ⟨b, off, none⟩) n c] 34)
/-- What the walk of fits wants to know of a span that is there. -/
theorem fits_facts {w1 : World} {B k : Nat} {a : Option Addr} {n c : Nat} {M : List Pg} {r : Int} (hr : r = 1 ∨ r = 2 ∨ r = 4) (hra : RAt w1 B a n c M) (hBZ : B ≤ w1.heap.size) (hk : Blk w1 k #[.slice a n c] 34) {x N Y : Nat} (x1 : x ≤ 18446744073709551615) (hw : isW (N : Int)) (hY : x + N - 1 = Y) (hT : (spanP M x N).isSome = true) :
    ∃ (b off i10 i11 : Nat) (p10 p11 : Pg), a = some ⟨b, off, none⟩ ∧ Hid ((i10 : Int) < n) ∧ Hid ((i11 : Int) < n) ∧ Hid (∀ wx, Below w1.heap.size w1 wx → Rp.At wx b (off + i10 * 6) (rp p10)) ∧ Hid (FindsAt w1 b off n c x i10) ∧ Hid (0 ≤ p10.prot ∧ p10.prot ≤ 7) ∧ Hid (0 ≤ p11.prot ∧ p11.prot ≤ 7) ∧
      Hid (fitsZ M x N r = if (p10.prot / r % 2 == 0) || (p11.prot / r % 2 == 0) then 41 else 0) ∧ Hid (∀ wx, Below w1.heap.size w1 wx → wx.cell? ⟨k, 0, none⟩ = some (.slice (some ⟨b, off, none⟩) n c)) ∧
      Hid (∀ W7, Below w1.heap.size w1 W7 → FindsAt W7 b off n c Y i11 ∧ (∀ wx, Below W7.heap.size W7 wx → Rp.At wx b (off + i11 * 6) (rp p11)) ∧ (∀ wx, Below W7.heap.size W7 wx → wx.cell? ⟨k, 0, none⟩ = some (.slice (some ⟨b, off, none⟩) n c))) ∧ Hid (x + N ≤ 4294967296) := by
  have hn8 : 1 ≤ N ∧ N ≤ 8 := by unfold isW at hw; omega
  obtain ⟨hp1, hp2⟩ := span_ends hT hn8.1 hn8.2
  obtain ⟨L0, hL0⟩ := Option.isSome_iff_exists.1 hT
  have htop := span_top hra.ok hL0 (by omega)
  have hns := fits_some (M := M) (x := x) (r := r) hw (by rw [Int.toNat_natCast]; exact hT)
  rw [Int.toNat_natCast] at hns
  rw [hY] at hp2 hns
  obtain ⟨p10, hp10⟩ := hp1
  obtain ⟨p11, hp11⟩ := hp2
  obtain ⟨i10, hi10, hx10, hg10⟩ := idx_some 0 hp10
  obtain ⟨i11, hi11, hx11, hg11⟩ := idx_some 0 hp11
  rw [Int.zero_add] at hx10 hx11
  have hnl := hra.len
  obtain ⟨b, off, rfl, hbB, ha10⟩ := hra.at (k := i10) (by omega)
  obtain ⟨b', off', e', hbB', ha11⟩ := hra.at (k := i11) (by omega)
  obtain ⟨rfl, rfl⟩ : b = b' ∧ off = off' := by injection e' with e'; injection e' with q1 q2; exact ⟨q1, q2⟩
  rw [hg10] at ha10
  rw [hg11] at ha11
  have hbb : b < w1.heap.size := Nat.lt_of_lt_of_le hbB hBZ
  have hok10 := hra.ok p10 (findP_mem hp10).1
  have hok11 := hra.ok p11 (findP_mem hp11).1
  have hf : ∀ (y i : Nat), y ≤ 18446744073709551615 → idxZ M (y / 256 * 256) 0 = i → ∀ wx, Below w1.heap.size w1 wx → Calls Try.prog 53 #[.agg #[.slice (some ⟨b, off, none⟩) n c], .int .u64 (y : Int)] wx fun e w' => e = .returned (.int .i64 (i : Int)) ∧ w' = wx.alloc (.cells #[.slice (some ⟨b, off, none⟩) n c] 34) := fun y i hy hi wx hb => by
    have h1 := rfind_ok (hra.below (hb.mono hBZ)) (Nat.le_trans hBZ hb.size) y hy
    rw [hi] at h1
    exact h1
  refine ⟨b, off, i10, i11, p10, p11, rfl, Lib.hid (by omega), Lib.hid (by omega), Lib.hid (fun wx hb => ha10.below hb hbb), Lib.hid (fun wx hb => hf x i10 x1 hx10 wx hb), Lib.hid hok10.pr, Lib.hid hok11.pr, Lib.hid ?_, Lib.hid (fun wx hb => (hk.later hb).cell 0), Lib.hid (fun W7 hb => ⟨fun wx hb2 => hf Y i11 (by omega) hx11 wx (hb.trans (hb2.mono hb.size)), fun wx hb2 => ha11.below (hb.trans (hb2.mono hb.size)) hbb, fun wx hb2 => (hk.later (hb.trans (hb2.mono hb.size))).cell 0⟩), Lib.hid htop⟩
  rw [hns, denyA_of hp10, denyA_of hp11, prot_bit hok10.pr.1 hok10.pr.2 hr, prot_bit hok11.pr.1 hok11.pr.2 hr]
set_option maxHeartbeats 12800000 in
set_option maxRecDepth 100000 in
theorem fits4_1 {w : World} {B : Nat} {a : Option Addr} {n c : Nat} {M : List Pg} (h : RAt w B a n c M) (hB : B ≤ w.heap.size) (x : Nat) (x1 : x ≤ 18446744073709551615) :
    Calls Try.prog 43 #[mv a n c, .int .u64 x, .int .i64 1, .int .i64 4] w fun e w' => e = .returned (.int .i64 (fitsZ M x 1 4)) ∧ Below w.heap.size w w' := by
  have HH := Lib.hid h
  have HB := Lib.hid hB
  have hnn := fits_none (M := M) (x := x) (n := 1) (r := 4) (by decide)
  obtain ⟨Z, hZ⟩ : ∃ Z, fitsZ M x 1 4 = Z := ⟨_, rfl⟩
  rw [hZ] at hnn ⊢
  have HNN := Lib.hid hnn
  have HZZ := Lib.hid hZ
  have HB1 : Hid (Below w.heap.size w (w.alloc (.cells #[.slice a n c] 34))) := Lib.hid ((Below.refl _ _).alloc (Nat.le_refl _) _)
  have BX := Lib.hid (Blk.new w #[.slice a n c] 34)
  have HTH := Lib.hid (there_ok (h.below ((Below.refl _ _).alloc hB (.cells #[.slice a n c] 34))) (by simp; omega) x 1 x1 (by omega) (by omega))
  obtain ⟨T, hT⟩ : ∃ T, (spanP M x 1).isSome = T := ⟨_, rfl⟩
  rw [hT] at HTH
  have HT := Lib.hid hT
  have HX1 := Lib.hid x1
  have hc0 : (w.alloc (.cells #[.slice a n c] 34)).cell? ⟨w.heap.size, 0, none⟩ = some (.slice a n c) := BX.out.cell 0
  unfold mv at *
  clear h hB hZ hnn hT
  go_enter Try.func43, Try.ntmps43
  go_wp2_with fail
  refine HTH.out.mono ?_
  rintro r1 w1 ⟨rfl, hb1⟩
  rw [World.size_alloc] at hb1
  have HBA : Hid (Below w.heap.size w w1) := Lib.hid (HB1.out.trans (hb1.mono (by omega)))
  have HK0 : Hid (Blk w1 w.heap.size #[.slice a n c] 34) := Lib.hid (BX.out.below hb1 (by omega))
  have c1 : w1.cell? ⟨w.heap.size, 0, none⟩ = some (.slice a n c) := HK0.out.cell 0
  clear hb1 hc0 HTH
  cases T with
  | false =>
    have HZ0 := Lib.hid (HNN.out HT.out)
    go_wp2
    go_ret
    exact ⟨by rw [HZ0.out]; rfl, HBA.out⟩
  | true =>
    obtain ⟨b, off, i10, i11, p10, p11, rfl, HI10, HI11, HA10, HF6, HP10, HP11, HZ1, HM6, HN11, HTOP⟩ := fits_facts (r := 4) (N := 1) (Y := x) (by decide) (HH.out.below (HBA.out.mono HB.out)) (Nat.le_trans HB.out HBA.out.size) HK0.out HX1.out (by decide) (by omega) HT.out
    have HWX : Hid (IntKind.u64.wrap ((x : Int) + 1) = (x : Int) + 1) := Lib.hid (by rw [IntKind.wrap_u64]; have := HTOP.out; omega)
    have HWY : Hid (IntKind.u64.wrap ((x : Int)) = (x : Nat)) := Lib.hid (by rw [IntKind.wrap_u64]; have := HTOP.out; omega)
    have hz1 := HZ1.out
    rw [show fitsZ M x (1 : Nat) 4 = fitsZ M x 1 4 from rfl, HZZ.out] at hz1
    have HZ2 := Lib.hid hz1
    obtain ⟨W6, hW6⟩ : ∃ W : World, W = w1 := ⟨_, rfl⟩
    subst hW6
    clear hz1 HZ1 HNN HZZ BX x1
    go_wp2_with fail
    refine wp_region_a (by kernel_rfl) 65 rfl [33, 34, 35, 36, 37, 38, 39, 10, 65] (fun _ _ => True) (factsOf [Is (.pointer (some ⟨w.heap.size, 0, none⟩)), Is (.slice (some ⟨b, off, none⟩) n c), Is (.agg #[.slice (some ⟨b, off, none⟩) n c]), Is (.int .u64 (x : Int)), Is (.int .i64 (i10 : Int)), Is (.pointer (some ⟨b, off + i10 * 6, none⟩)), Is (.agg #[.int .u64 p10.a, .int .i64 p10.prot, .bool p10.dirty, .string p10.file, .int .u64 p10.off, .string (strOfNums p10.b)]), AnyB, AnyB]) (JA [7, 8] [10] (PBx W6 #[.int .u64 p10.a, .int .i64 p10.prot, .bool p10.dirty, .string p10.file, .int .u64 p10.off, .string (strOfNums p10.b)] 7 8 10)) ?mono6 ?hj6 (by kernel_rfl) ?start6 ?steps6 ?fin6
    case mono6 => exact factsOf_monoR (monoR_cons (Is.monoR _ _) (monoR_cons (Is.monoR _ _) (monoR_cons (Is.monoR _ _) (monoR_cons (Is.monoR _ _) (monoR_cons (Is.monoR _ _) (monoR_cons (Is.monoR _ _) (monoR_cons (Is.monoR _ _) (monoR_cons (AnyB.monoR _) (monoR_cons (AnyB.monoR _) (monoR_nil _))))))))))
    case hj6 => exact JA.congr (by decide)
    case start6 =>
      refine JA.of fun L' y' h1 h2 => ?_
      exact ⟨Below.drew (Below.refl _ _), (fun h => by rw [h1 7 (by decide)] at h; cases h)⟩
    case fin6 =>
      intro y L w9 hJ hall hF hT
      have hP := hJ.out
      clear hJ hF
      obtain ⟨g10, eg10, hge, -, hblk⟩ := hP.a (hall 7 (by decide))
      have HK10 := Lib.hid (hblk (hall 8 (by decide)))
      have HBL10 := Lib.hid hP.bel
      have HGE10 := Lib.hid hge
      clear hP hall hblk hge
      rw [frFt]
      simp only [eg10, hT 0 (by decide), hT 1 (by decide), hT 2 (by decide), hT 3 (by decide), hT 4 (by decide), hT 5 (by decide), hT 6 (by decide), hT 7 (by decide), hT 8 (by decide), hT 9 (by decide), hT 11 (by decide), hT 12 (by decide), hT 13 (by decide), hT 14 (by decide), hT 15 (by decide), hT 16 (by decide), hT 17 (by decide), hT 18 (by decide), hT 19 (by decide), hT 20 (by decide), hT 21 (by decide), hT 22 (by decide), hT 23 (by decide), hT 24 (by decide), hT 25 (by decide), hT 26 (by decide), hT 27 (by decide), hT 28 (by decide), hT 29 (by decide), hT 30 (by decide), hT 31 (by decide), hT 32 (by decide), hT 40 (by decide), hT 41 (by decide), hT 42 (by decide), hT 43 (by decide), hT 44 (by decide), hT 45 (by decide), hT 46 (by decide), hT 47 (by decide), hT 48 (by decide), hT 49 (by decide), hT 50 (by decide), hT 51 (by decide), hT 52 (by decide), hT 53 (by decide), hT 54 (by decide), hT 55 (by decide), hT 56 (by decide), hT 57 (by decide), hT 58 (by decide), hT 59 (by decide), hT 60 (by decide), hT 61 (by decide), hT 62 (by decide), hT 63 (by decide), hT 64 (by decide), List.getD_cons_succ, List.getD_cons_zero]
      clear hT eg10
      obtain ⟨W7, hW7⟩ : ∃ W : World, W = w9 := ⟨_, rfl⟩
      subst hW7
      have hn7 := HN11.out W7 HBL10.out
      have HF7 := Lib.hid hn7.1
      have HA11 := Lib.hid hn7.2.1
      have HM7 := Lib.hid hn7.2.2
      clear hn7
      clear c1
      go_wp2_with fail
      refine wp_region_a (by kernel_rfl) 65 rfl [40, 41, 42, 43, 44, 45, 46, 47, 48, 49, 50, 11, 65] (fun _ _ => True) (factsOf [Is (.pointer (some ⟨w.heap.size, 0, none⟩)), Is (.slice (some ⟨b, off, none⟩) n c), Is (.agg #[.slice (some ⟨b, off, none⟩) n c]), Is (.int .u64 (x : Int)), Is (.int .i64 1), Is (.int .u64 1), Is (.int .u64 ((x : Int) + 1)), Is (.int .u64 (x : Int)), Is (.int .i64 (i11 : Int)), Is (.pointer (some ⟨b, off + i11 * 6, none⟩)), Is (.agg #[.int .u64 p11.a, .int .i64 p11.prot, .bool p11.dirty, .string p11.file, .int .u64 p11.off, .string (strOfNums p11.b)]), AnyB, AnyB]) (JA [11, 12] [11] (PBx W7 #[.int .u64 p11.a, .int .i64 p11.prot, .bool p11.dirty, .string p11.file, .int .u64 p11.off, .string (strOfNums p11.b)] 11 12 11)) ?mono7 ?hj7 (by kernel_rfl) ?start7 ?steps7 ?fin7
      case mono7 => exact factsOf_monoR (monoR_cons (Is.monoR _ _) (monoR_cons (Is.monoR _ _) (monoR_cons (Is.monoR _ _) (monoR_cons (Is.monoR _ _) (monoR_cons (Is.monoR _ _) (monoR_cons (Is.monoR _ _) (monoR_cons (Is.monoR _ _) (monoR_cons (Is.monoR _ _) (monoR_cons (Is.monoR _ _) (monoR_cons (Is.monoR _ _) (monoR_cons (Is.monoR _ _) (monoR_cons (AnyB.monoR _) (monoR_cons (AnyB.monoR _) (monoR_nil _))))))))))))))
      case hj7 => exact JA.congr (by decide)
      case start7 =>
        refine JA.of fun L' y' h1 h2 => ?_
        exact ⟨Below.drew (Below.refl _ _), (fun h => by rw [h1 11 (by decide)] at h; cases h)⟩
      case fin7 =>
        intro y L w9 hJ hall hF hT
        have hP := hJ.out
        clear hJ hF
        obtain ⟨g11, eg11, hge, -, hblk⟩ := hP.a (hall 11 (by decide))
        have HK11 := Lib.hid (hblk (hall 12 (by decide)))
        have HBL11 := Lib.hid hP.bel
        have HGE11 := Lib.hid hge
        clear hP hall hblk hge
        rw [frFt]
        simp only [eg11, hT 0 (by decide), hT 1 (by decide), hT 2 (by decide), hT 3 (by decide), hT 4 (by decide), hT 5 (by decide), hT 6 (by decide), hT 7 (by decide), hT 8 (by decide), hT 9 (by decide), hT 10 (by decide), hT 12 (by decide), hT 13 (by decide), hT 14 (by decide), hT 15 (by decide), hT 16 (by decide), hT 17 (by decide), hT 18 (by decide), hT 19 (by decide), hT 20 (by decide), hT 21 (by decide), hT 22 (by decide), hT 23 (by decide), hT 24 (by decide), hT 25 (by decide), hT 26 (by decide), hT 27 (by decide), hT 28 (by decide), hT 29 (by decide), hT 30 (by decide), hT 31 (by decide), hT 32 (by decide), hT 33 (by decide), hT 34 (by decide), hT 35 (by decide), hT 36 (by decide), hT 37 (by decide), hT 38 (by decide), hT 39 (by decide), hT 51 (by decide), hT 52 (by decide), hT 53 (by decide), hT 54 (by decide), hT 55 (by decide), hT 56 (by decide), hT 57 (by decide), hT 58 (by decide), hT 59 (by decide), hT 60 (by decide), hT 61 (by decide), hT 62 (by decide), hT 63 (by decide), hT 64 (by decide), List.getD_cons_succ, List.getD_cons_zero]
        clear hT eg11
        obtain ⟨W8, hW8⟩ : ∃ W : World, W = w9 := ⟨_, rfl⟩
        subst hW8
        have HK10' : Hid (Blk W8 g10 #[.int .u64 p10.a, .int .i64 p10.prot, .bool p10.dirty, .string p10.file, .int .u64 p10.off, .string (strOfNums p10.b)] 66) := Lib.hid (HK10.out.later HBL11.out)
        have c10 : W8.cell? ⟨g10, 1, none⟩ = some (.int .i64 p10.prot) := HK10'.out.cell 1
        have c11 : W8.cell? ⟨g11, 1, none⟩ = some (.int .i64 p11.prot) := HK11.out.cell 1
        have HEND : Hid (Below w.heap.size w W8) := Lib.hid (HBA.out.trans ((HBL10.out.trans (HBL11.out.mono HBL10.out.size)).mono HBA.out.size))
        have hpp10 := HP10.out
        have hpp11 := HP11.out
        by_cases hq10 : p10.prot / 4 % 2 = 0
        · have HQ : Hid (Z = 41) := Lib.hid (by rw [HZ2.out]; exact if_pos (by rw [Bool.or_eq_true, beq_iff_eq, beq_iff_eq]; exact Or.inl hq10))
          go_wp2
          go_ret
          exact ⟨by rw [HQ.out]; rfl, HEND.out⟩
        · go_wp2
          all_goals go_ret
          all_goals refine ⟨?_, HEND.out⟩
          all_goals rw [HZ2.out]
          all_goals (split <;> rename_i hx hsp <;> first | rfl | (exfalso; simp at hx hsp; omega))
      case steps7 =>
        refine ⟨?_, ?_, ?_, ?_, ?_, ?_, ?_, ?_, ?_, ?_, ?_, ?_, ?_, trivial⟩
        all_goals intro L y w9 hJ hL hy0 hp0 hcl hun
        all_goals have hy := Lib.hid hy0
        all_goals have hp := Lib.hid hp0
        all_goals have HJ := Lib.hid hJ
        all_goals have HP := Lib.hid hJ.out
        all_goals have hU := Lib.hid hun
        all_goals clear hy0 hp0 hun hJ
        · have e1 : y 4 = .pointer (some ⟨w.heap.size, 0, none⟩) := hy.out 4 (by decide)
          intro K Q hK
          clear hcl hL
          have v1 := (eval_frame 65 y [] (t := 4) (by decide)).trans e1
          obtain ⟨A, hA⟩ : ∃ A, (⟨frameOf 65 y, []⟩ : Act) = A := ⟨_, rfl⟩
          rw [hA] at v1 hK ⊢
          clear hA hy hp
          simp only [Act.eval] at v1
          go_simp
          exact hK _ _ ⟨trivial, fun _ => rfl, HJ.out.pure (by decide) (by decide)⟩
        · have e1 : y 40 = .pointer (some ⟨w.heap.size, 0, none⟩) := (hp.out 0 (by decide)).2 (by decide)
          have q0 : w9.cell? ⟨w.heap.size, 0, none⟩ = some (.slice (some ⟨b, off, none⟩) n c) := (fun (_ : Nat) => HM7.out _ HP.out.bel) 0
          intro K Q hK
          clear hcl hL
          have v1 := (eval_frame 65 y [] (t := 40) (by decide)).trans e1
          obtain ⟨A, hA⟩ : ∃ A, (⟨frameOf 65 y, []⟩ : Act) = A := ⟨_, rfl⟩
          rw [hA] at v1 hK ⊢
          clear hA hy hp
          simp only [Act.eval] at v1
          go_simp
          exact hK _ _ ⟨trivial, fun _ => rfl, HJ.out.pure (by decide) (by decide)⟩
        · have e1 : y 4 = .pointer (some ⟨w.heap.size, 0, none⟩) := hy.out 4 (by decide)
          have q0 : w9.cell? ⟨w.heap.size, 0, none⟩ = some (.slice (some ⟨b, off, none⟩) n c) := (fun (_ : Nat) => HM7.out _ HP.out.bel) 0
          intro K Q hK
          clear hcl hL
          have v1 := (eval_frame 65 y [] (t := 4) (by decide)).trans e1
          obtain ⟨A, hA⟩ : ∃ A, (⟨frameOf 65 y, []⟩ : Act) = A := ⟨_, rfl⟩
          rw [hA] at v1 hK ⊢
          clear hA hy hp
          simp only [Act.eval] at v1
          go_simp
          exact hK _ _ ⟨trivial, fun _ => rfl, HJ.out.pure (by decide) (by decide)⟩
        · have e1 : y 1 = .int .u64 (x : Int) := hy.out 1 (by decide)
          intro K Q hK
          clear hcl hL
          have v1 := (eval_frame 65 y [] (t := 1) (by decide)).trans e1
          obtain ⟨A, hA⟩ : ∃ A, (⟨frameOf 65 y, []⟩ : Act) = A := ⟨_, rfl⟩
          rw [hA] at v1 hK ⊢
          clear hA hy hp
          simp only [Act.eval] at v1
          go_simp
          exact hK _ _ ⟨trivial, fun _ => rfl, HJ.out.pure (by decide) (by decide)⟩
        · have e1 : y 2 = .int .i64 1 := hy.out 2 (by decide)
          intro K Q hK
          clear hcl hL
          have v1 := (eval_frame 65 y [] (t := 2) (by decide)).trans e1
          obtain ⟨A, hA⟩ : ∃ A, (⟨frameOf 65 y, []⟩ : Act) = A := ⟨_, rfl⟩
          rw [hA] at v1 hK ⊢
          clear hA hy hp
          simp only [Act.eval] at v1
          go_simp
          exact hK _ _ ⟨trivial, fun _ => rfl, HJ.out.pure (by decide) (by decide)⟩
        · have e1 : y 44 = .int .i64 1 := (hp.out 4 (by decide)).2 (by decide)
          intro K Q hK
          clear hcl hL
          have v1 := (eval_frame 65 y [] (t := 44) (by decide)).trans e1
          obtain ⟨A, hA⟩ : ∃ A, (⟨frameOf 65 y, []⟩ : Act) = A := ⟨_, rfl⟩
          rw [hA] at v1 hK ⊢
          clear hA hy hp
          simp only [Act.eval] at v1
          go_simp
          exact hK _ _ ⟨trivial, fun _ => rfl, HJ.out.pure (by decide) (by decide)⟩
        · have e1 : y 43 = .int .u64 (x : Int) := (hp.out 3 (by decide)).2 (by decide)
          have e2 : y 45 = .int .u64 1 := (hp.out 5 (by decide)).2 (by decide)
          have hwx := HWX.out
          intro K Q hK
          clear hcl hL
          have v1 := (eval_frame 65 y [] (t := 43) (by decide)).trans e1
          have v2 := (eval_frame 65 y [] (t := 45) (by decide)).trans e2
          obtain ⟨A, hA⟩ : ∃ A, (⟨frameOf 65 y, []⟩ : Act) = A := ⟨_, rfl⟩
          rw [hA] at v1 v2 hK ⊢
          clear hA hy hp
          simp only [Act.eval] at v1 v2
          go_simp
          first | exact hK _ _ ⟨trivial, fun _ => rfl, HJ.out.pure (by decide) (by decide)⟩ | (rw [hwx]; exact hK _ _ ⟨trivial, fun _ => rfl, HJ.out.pure (by decide) (by decide)⟩)
        · have e1 : y 46 = .int .u64 ((x : Int) + 1) := (hp.out 6 (by decide)).2 (by decide)
          have hwy := HWY.out
          intro K Q hK
          clear hcl hL
          have v1 := (eval_frame 65 y [] (t := 46) (by decide)).trans e1
          obtain ⟨A, hA⟩ : ∃ A, (⟨frameOf 65 y, []⟩ : Act) = A := ⟨_, rfl⟩
          rw [hA] at v1 hK ⊢
          clear hA hy hp
          simp only [Act.eval] at v1
          go_simp
          first | exact hK _ _ ⟨trivial, fun _ => rfl, HJ.out.pure (by decide) (by decide)⟩ | (rw [hwy]; exact hK _ _ ⟨trivial, fun _ => rfl, HJ.out.pure (by decide) (by decide)⟩)
        · have e1 : y 42 = .agg #[.slice (some ⟨b, off, none⟩) n c] := (hp.out 2 (by decide)).2 (by decide)
          have e2 : y 47 = .int .u64 (x : Int) := (hp.out 7 (by decide)).2 (by decide)
          intro K Q hK
          clear hcl hL
          have v1 := (eval_frame 65 y [] (t := 42) (by decide)).trans e1
          have v2 := (eval_frame 65 y [] (t := 47) (by decide)).trans e2
          obtain ⟨A, hA⟩ : ∃ A, (⟨frameOf 65 y, []⟩ : Act) = A := ⟨_, rfl⟩
          rw [hA] at v1 v2 hK ⊢
          clear hA hy hp
          simp only [Act.eval] at v1 v2
          go_simp
          refine (HF7.out _ HP.out.bel).mono ?_
          rintro r w5 ⟨rfl, rfl⟩
          exact hK _ _ ⟨trivial, fun _ => rfl, JA.step fun L' y' h1 h2 h3 h4 => HP.out.alloc _ (h1 11 (by decide) (by decide)) (h1 12 (by decide) (by decide)) (h3 11 (by decide) (by decide))⟩
        · have e1 : y 41 = .slice (some ⟨b, off, none⟩) n c := (hp.out 1 (by decide)).2 (by decide)
          have e2 : y 48 = .int .i64 (i11 : Int) := (hp.out 8 (by decide)).2 (by decide)
          have hil := HI11.out
          intro K Q hK
          clear hcl hL
          have v1 := (eval_frame 65 y [] (t := 41) (by decide)).trans e1
          have v2 := (eval_frame 65 y [] (t := 48) (by decide)).trans e2
          obtain ⟨A, hA⟩ : ∃ A, (⟨frameOf 65 y, []⟩ : Act) = A := ⟨_, rfl⟩
          rw [hA] at v1 v2 hK ⊢
          clear hA hy hp
          simp only [Act.eval] at v1 v2
          go_simp
          first | exact hK _ _ ⟨trivial, fun _ => rfl, HJ.out.pure (by decide) (by decide)⟩ | (rw [if_pos ⟨by omega, by omega⟩]; exact hK _ _ ⟨trivial, fun _ => rfl, HJ.out.pure (by decide) (by decide)⟩)
        · have e1 : y 49 = .pointer (some ⟨b, off + i11 * 6, none⟩) := (hp.out 9 (by decide)).2 (by decide)
          obtain ⟨c0, c1, c2, c3, c4, c5⟩ := HA11.out _ HP.out.bel
          intro K Q hK
          clear hcl hL
          have v1 := (eval_frame 65 y [] (t := 49) (by decide)).trans e1
          obtain ⟨A, hA⟩ : ∃ A, (⟨frameOf 65 y, []⟩ : Act) = A := ⟨_, rfl⟩
          rw [hA] at v1 hK ⊢
          clear hA hy hp
          simp only [Act.eval] at v1
          go_simp
          exact hK _ _ ⟨trivial, fun _ => rfl, HJ.out.pure (by decide) (by decide)⟩
        · have hN12 : L 12 = false := by
            cases h : L 12 with
            | false => rfl
            | true => have := (hcl 12 _ rfl h 11 (by decide)); rw [hL] at this; cases this
          intro K Q hK
          clear hcl hL
          obtain ⟨A, hA⟩ : ∃ A, (⟨frameOf 65 y, []⟩ : Act) = A := ⟨_, rfl⟩
          rw [hA] at hK ⊢
          clear hA hy hp
          go_simp
          exact hK _ _ ⟨trivial, fun _ => trivial, JA.step fun L' y' h1 h2 h3 h4 => ⟨HP.out.bel.alloc HP.out.bel.size _, fun _ => ⟨w9.heap.size, h4 (by decide), HP.out.bel.size, fun _ => Blk.new _ _ _, (fun h => by rw [h1 12 (by decide) (by decide), hN12] at h; cases h)⟩⟩⟩
        · have hL11 : L 11 = true := (hp.out 11 (by decide)).1
          obtain ⟨g, e1, hge, hz, -⟩ := HP.out.a hL11
          have e2 : y 50 = .agg #[.int .u64 p11.a, .int .i64 p11.prot, .bool p11.dirty, .string p11.file, .int .u64 p11.off, .string (strOfNums p11.b)] := (hp.out 10 (by decide)).2 (by decide)
          have hN12 : L 12 = false := hL
          obtain ⟨q0, q1, q2, q3, q4, q5⟩ := Rp.cs (hz hN12)
          obtain ⟨f0, f1, f2, f3, f4, f5⟩ := Rp.fs (hz hN12)
          have hzb := Lib.hid (hz hN12)
          have ey := e1
          intro K Q hK
          clear hcl hL
          have v1 := (eval_frame 65 y [] (t := 11) (by decide)).trans e1
          have v2 := (eval_frame 65 y [] (t := 50) (by decide)).trans e2
          obtain ⟨A, hA⟩ : ∃ A, (⟨frameOf 65 y, []⟩ : Act) = A := ⟨_, rfl⟩
          rw [hA] at v1 v2 hK ⊢
          clear hA hy hp
          simp only [Act.eval] at v1 v2
          go_simp
          exact hK undef _ ⟨trivial, fun h => absurd h (by decide), JA.step fun L' y' h1 h2 h3 h4 => PBx.stored HP.out.bel hzb.out hge ((h3 11 (by decide) (by decide)).trans ey) (h2 (by decide))⟩

    case steps6 =>
      refine ⟨?_, ?_, ?_, ?_, ?_, ?_, ?_, ?_, ?_, trivial⟩
      all_goals intro L y w9 hJ hL hy0 hp0 hcl hun
      all_goals have hy := Lib.hid hy0
      all_goals have hp := Lib.hid hp0
      all_goals have HJ := Lib.hid hJ
      all_goals have HP := Lib.hid hJ.out
      all_goals have hU := Lib.hid hun
      all_goals clear hy0 hp0 hun hJ
      · have e1 : y 4 = .pointer (some ⟨w.heap.size, 0, none⟩) := hy.out 4 (by decide)
        intro K Q hK
        clear hcl hL
        have v1 := (eval_frame 65 y [] (t := 4) (by decide)).trans e1
        obtain ⟨A, hA⟩ : ∃ A, (⟨frameOf 65 y, []⟩ : Act) = A := ⟨_, rfl⟩
        rw [hA] at v1 hK ⊢
        clear hA hy hp
        simp only [Act.eval] at v1
        go_simp
        exact hK _ _ ⟨trivial, fun _ => rfl, HJ.out.pure (by decide) (by decide)⟩
      · have e1 : y 33 = .pointer (some ⟨w.heap.size, 0, none⟩) := (hp.out 0 (by decide)).2 (by decide)
        have q0 : w9.cell? ⟨w.heap.size, 0, none⟩ = some (.slice (some ⟨b, off, none⟩) n c) := (fun (_ : Nat) => HM6.out _ HP.out.bel) 0
        intro K Q hK
        clear hcl hL
        have v1 := (eval_frame 65 y [] (t := 33) (by decide)).trans e1
        obtain ⟨A, hA⟩ : ∃ A, (⟨frameOf 65 y, []⟩ : Act) = A := ⟨_, rfl⟩
        rw [hA] at v1 hK ⊢
        clear hA hy hp
        simp only [Act.eval] at v1
        go_simp
        exact hK _ _ ⟨trivial, fun _ => rfl, HJ.out.pure (by decide) (by decide)⟩
      · have e1 : y 4 = .pointer (some ⟨w.heap.size, 0, none⟩) := hy.out 4 (by decide)
        have q0 : w9.cell? ⟨w.heap.size, 0, none⟩ = some (.slice (some ⟨b, off, none⟩) n c) := (fun (_ : Nat) => HM6.out _ HP.out.bel) 0
        intro K Q hK
        clear hcl hL
        have v1 := (eval_frame 65 y [] (t := 4) (by decide)).trans e1
        obtain ⟨A, hA⟩ : ∃ A, (⟨frameOf 65 y, []⟩ : Act) = A := ⟨_, rfl⟩
        rw [hA] at v1 hK ⊢
        clear hA hy hp
        simp only [Act.eval] at v1
        go_simp
        exact hK _ _ ⟨trivial, fun _ => rfl, HJ.out.pure (by decide) (by decide)⟩
      · have e1 : y 1 = .int .u64 (x : Int) := hy.out 1 (by decide)
        intro K Q hK
        clear hcl hL
        have v1 := (eval_frame 65 y [] (t := 1) (by decide)).trans e1
        obtain ⟨A, hA⟩ : ∃ A, (⟨frameOf 65 y, []⟩ : Act) = A := ⟨_, rfl⟩
        rw [hA] at v1 hK ⊢
        clear hA hy hp
        simp only [Act.eval] at v1
        go_simp
        exact hK _ _ ⟨trivial, fun _ => rfl, HJ.out.pure (by decide) (by decide)⟩
      · have e1 : y 35 = .agg #[.slice (some ⟨b, off, none⟩) n c] := (hp.out 2 (by decide)).2 (by decide)
        have e2 : y 36 = .int .u64 (x : Int) := (hp.out 3 (by decide)).2 (by decide)
        intro K Q hK
        clear hcl hL
        have v1 := (eval_frame 65 y [] (t := 35) (by decide)).trans e1
        have v2 := (eval_frame 65 y [] (t := 36) (by decide)).trans e2
        obtain ⟨A, hA⟩ : ∃ A, (⟨frameOf 65 y, []⟩ : Act) = A := ⟨_, rfl⟩
        rw [hA] at v1 v2 hK ⊢
        clear hA hy hp
        simp only [Act.eval] at v1 v2
        go_simp
        refine (HF6.out _ HP.out.bel).mono ?_
        rintro r w5 ⟨rfl, rfl⟩
        exact hK _ _ ⟨trivial, fun _ => rfl, JA.step fun L' y' h1 h2 h3 h4 => HP.out.alloc _ (h1 7 (by decide) (by decide)) (h1 8 (by decide) (by decide)) (h3 10 (by decide) (by decide))⟩
      · have e1 : y 34 = .slice (some ⟨b, off, none⟩) n c := (hp.out 1 (by decide)).2 (by decide)
        have e2 : y 37 = .int .i64 (i10 : Int) := (hp.out 4 (by decide)).2 (by decide)
        have hil := HI10.out
        intro K Q hK
        clear hcl hL
        have v1 := (eval_frame 65 y [] (t := 34) (by decide)).trans e1
        have v2 := (eval_frame 65 y [] (t := 37) (by decide)).trans e2
        obtain ⟨A, hA⟩ : ∃ A, (⟨frameOf 65 y, []⟩ : Act) = A := ⟨_, rfl⟩
        rw [hA] at v1 v2 hK ⊢
        clear hA hy hp
        simp only [Act.eval] at v1 v2
        go_simp
        first | exact hK _ _ ⟨trivial, fun _ => rfl, HJ.out.pure (by decide) (by decide)⟩ | (rw [if_pos ⟨by omega, by omega⟩]; exact hK _ _ ⟨trivial, fun _ => rfl, HJ.out.pure (by decide) (by decide)⟩)
      · have e1 : y 38 = .pointer (some ⟨b, off + i10 * 6, none⟩) := (hp.out 5 (by decide)).2 (by decide)
        obtain ⟨c0, c1, c2, c3, c4, c5⟩ := HA10.out _ HP.out.bel
        intro K Q hK
        clear hcl hL
        have v1 := (eval_frame 65 y [] (t := 38) (by decide)).trans e1
        obtain ⟨A, hA⟩ : ∃ A, (⟨frameOf 65 y, []⟩ : Act) = A := ⟨_, rfl⟩
        rw [hA] at v1 hK ⊢
        clear hA hy hp
        simp only [Act.eval] at v1
        go_simp
        exact hK _ _ ⟨trivial, fun _ => rfl, HJ.out.pure (by decide) (by decide)⟩
      · have hN8 : L 8 = false := by
          cases h : L 8 with
          | false => rfl
          | true => have := (hcl 8 _ rfl h 7 (by decide)); rw [hL] at this; cases this
        intro K Q hK
        clear hcl hL
        obtain ⟨A, hA⟩ : ∃ A, (⟨frameOf 65 y, []⟩ : Act) = A := ⟨_, rfl⟩
        rw [hA] at hK ⊢
        clear hA hy hp
        go_simp
        exact hK _ _ ⟨trivial, fun _ => trivial, JA.step fun L' y' h1 h2 h3 h4 => ⟨HP.out.bel.alloc HP.out.bel.size _, fun _ => ⟨w9.heap.size, h4 (by decide), HP.out.bel.size, fun _ => Blk.new _ _ _, (fun h => by rw [h1 8 (by decide) (by decide), hN8] at h; cases h)⟩⟩⟩
      · have hL7 : L 7 = true := (hp.out 7 (by decide)).1
        obtain ⟨g, e1, hge, hz, -⟩ := HP.out.a hL7
        have e2 : y 39 = .agg #[.int .u64 p10.a, .int .i64 p10.prot, .bool p10.dirty, .string p10.file, .int .u64 p10.off, .string (strOfNums p10.b)] := (hp.out 6 (by decide)).2 (by decide)
        have hN8 : L 8 = false := hL
        obtain ⟨q0, q1, q2, q3, q4, q5⟩ := Rp.cs (hz hN8)
        obtain ⟨f0, f1, f2, f3, f4, f5⟩ := Rp.fs (hz hN8)
        have hzb := Lib.hid (hz hN8)
        have ey := e1
        intro K Q hK
        clear hcl hL
        have v1 := (eval_frame 65 y [] (t := 10) (by decide)).trans e1
        have v2 := (eval_frame 65 y [] (t := 39) (by decide)).trans e2
        obtain ⟨A, hA⟩ : ∃ A, (⟨frameOf 65 y, []⟩ : Act) = A := ⟨_, rfl⟩
        rw [hA] at v1 v2 hK ⊢
        clear hA hy hp
        simp only [Act.eval] at v1 v2
        go_simp
        exact hK undef _ ⟨trivial, fun h => absurd h (by decide), JA.step fun L' y' h1 h2 h3 h4 => PBx.stored HP.out.bel hzb.out hge ((h3 10 (by decide) (by decide)).trans ey) (h2 (by decide))⟩

set_option maxHeartbeats 12800000 in
set_option maxRecDepth 100000 in
theorem fits4_2 {w : World} {B : Nat} {a : Option Addr} {n c : Nat} {M : List Pg} (h : RAt w B a n c M) (hB : B ≤ w.heap.size) (x : Nat) (x1 : x ≤ 18446744073709551615) :
    Calls Try.prog 43 #[mv a n c, .int .u64 x, .int .i64 2, .int .i64 4] w fun e w' => e = .returned (.int .i64 (fitsZ M x 2 4)) ∧ Below w.heap.size w w' := by
  have HH := Lib.hid h
  have HB := Lib.hid hB
  have hnn := fits_none (M := M) (x := x) (n := 2) (r := 4) (by decide)
  obtain ⟨Z, hZ⟩ : ∃ Z, fitsZ M x 2 4 = Z := ⟨_, rfl⟩
  rw [hZ] at hnn ⊢
  have HNN := Lib.hid hnn
  have HZZ := Lib.hid hZ
  have HB1 : Hid (Below w.heap.size w (w.alloc (.cells #[.slice a n c] 34))) := Lib.hid ((Below.refl _ _).alloc (Nat.le_refl _) _)
  have BX := Lib.hid (Blk.new w #[.slice a n c] 34)
  have HTH := Lib.hid (there_ok (h.below ((Below.refl _ _).alloc hB (.cells #[.slice a n c] 34))) (by simp; omega) x 2 x1 (by omega) (by omega))
  obtain ⟨T, hT⟩ : ∃ T, (spanP M x 2).isSome = T := ⟨_, rfl⟩
  rw [hT] at HTH
  have HT := Lib.hid hT
  have HX1 := Lib.hid x1
  have hc0 : (w.alloc (.cells #[.slice a n c] 34)).cell? ⟨w.heap.size, 0, none⟩ = some (.slice a n c) := BX.out.cell 0
  unfold mv at *
  clear h hB hZ hnn hT
  go_enter Try.func43, Try.ntmps43
  go_wp2_with fail
  refine HTH.out.mono ?_
  rintro r1 w1 ⟨rfl, hb1⟩
  rw [World.size_alloc] at hb1
  have HBA : Hid (Below w.heap.size w w1) := Lib.hid (HB1.out.trans (hb1.mono (by omega)))
  have HK0 : Hid (Blk w1 w.heap.size #[.slice a n c] 34) := Lib.hid (BX.out.below hb1 (by omega))
  have c1 : w1.cell? ⟨w.heap.size, 0, none⟩ = some (.slice a n c) := HK0.out.cell 0
  clear hb1 hc0 HTH
  cases T with
  | false =>
    have HZ0 := Lib.hid (HNN.out HT.out)
    go_wp2
    go_ret
    exact ⟨by rw [HZ0.out]; rfl, HBA.out⟩
  | true =>
    obtain ⟨b, off, i10, i11, p10, p11, rfl, HI10, HI11, HA10, HF6, HP10, HP11, HZ1, HM6, HN11, HTOP⟩ := fits_facts (r := 4) (N := 2) (Y := (x + 1)) (by decide) (HH.out.below (HBA.out.mono HB.out)) (Nat.le_trans HB.out HBA.out.size) HK0.out HX1.out (by decide) (by omega) HT.out
    have HWX : Hid (IntKind.u64.wrap ((x : Int) + 2) = (x : Int) + 2) := Lib.hid (by rw [IntKind.wrap_u64]; have := HTOP.out; omega)
    have HWY : Hid (IntKind.u64.wrap ((x : Int) + 2 - 1) = ((x + 1) : Nat)) := Lib.hid (by rw [IntKind.wrap_u64]; have := HTOP.out; omega)
    have hz1 := HZ1.out
    rw [show fitsZ M x (2 : Nat) 4 = fitsZ M x 2 4 from rfl, HZZ.out] at hz1
    have HZ2 := Lib.hid hz1
    obtain ⟨W6, hW6⟩ : ∃ W : World, W = w1 := ⟨_, rfl⟩
    subst hW6
    clear hz1 HZ1 HNN HZZ BX x1
    go_wp2_with fail
    refine wp_region_a (by kernel_rfl) 65 rfl [33, 34, 35, 36, 37, 38, 39, 10, 65] (fun _ _ => True) (factsOf [Is (.pointer (some ⟨w.heap.size, 0, none⟩)), Is (.slice (some ⟨b, off, none⟩) n c), Is (.agg #[.slice (some ⟨b, off, none⟩) n c]), Is (.int .u64 (x : Int)), Is (.int .i64 (i10 : Int)), Is (.pointer (some ⟨b, off + i10 * 6, none⟩)), Is (.agg #[.int .u64 p10.a, .int .i64 p10.prot, .bool p10.dirty, .string p10.file, .int .u64 p10.off, .string (strOfNums p10.b)]), AnyB, AnyB]) (JA [7, 8] [10] (PBx W6 #[.int .u64 p10.a, .int .i64 p10.prot, .bool p10.dirty, .string p10.file, .int .u64 p10.off, .string (strOfNums p10.b)] 7 8 10)) ?mono6 ?hj6 (by kernel_rfl) ?start6 ?steps6 ?fin6
    case mono6 => exact factsOf_monoR (monoR_cons (Is.monoR _ _) (monoR_cons (Is.monoR _ _) (monoR_cons (Is.monoR _ _) (monoR_cons (Is.monoR _ _) (monoR_cons (Is.monoR _ _) (monoR_cons (Is.monoR _ _) (monoR_cons (Is.monoR _ _) (monoR_cons (AnyB.monoR _) (monoR_cons (AnyB.monoR _) (monoR_nil _))))))))))
    case hj6 => exact JA.congr (by decide)
    case start6 =>
      refine JA.of fun L' y' h1 h2 => ?_
      exact ⟨Below.drew (Below.refl _ _), (fun h => by rw [h1 7 (by decide)] at h; cases h)⟩
    case fin6 =>
      intro y L w9 hJ hall hF hT
      have hP := hJ.out
      clear hJ hF
      obtain ⟨g10, eg10, hge, -, hblk⟩ := hP.a (hall 7 (by decide))
      have HK10 := Lib.hid (hblk (hall 8 (by decide)))
      have HBL10 := Lib.hid hP.bel
      have HGE10 := Lib.hid hge
      clear hP hall hblk hge
      rw [frFt]
      simp only [eg10, hT 0 (by decide), hT 1 (by decide), hT 2 (by decide), hT 3 (by decide), hT 4 (by decide), hT 5 (by decide), hT 6 (by decide), hT 7 (by decide), hT 8 (by decide), hT 9 (by decide), hT 11 (by decide), hT 12 (by decide), hT 13 (by decide), hT 14 (by decide), hT 15 (by decide), hT 16 (by decide), hT 17 (by decide), hT 18 (by decide), hT 19 (by decide), hT 20 (by decide), hT 21 (by decide), hT 22 (by decide), hT 23 (by decide), hT 24 (by decide), hT 25 (by decide), hT 26 (by decide), hT 27 (by decide), hT 28 (by decide), hT 29 (by decide), hT 30 (by decide), hT 31 (by decide), hT 32 (by decide), hT 40 (by decide), hT 41 (by decide), hT 42 (by decide), hT 43 (by decide), hT 44 (by decide), hT 45 (by decide), hT 46 (by decide), hT 47 (by decide), hT 48 (by decide), hT 49 (by decide), hT 50 (by decide), hT 51 (by decide), hT 52 (by decide), hT 53 (by decide), hT 54 (by decide), hT 55 (by decide), hT 56 (by decide), hT 57 (by decide), hT 58 (by decide), hT 59 (by decide), hT 60 (by decide), hT 61 (by decide), hT 62 (by decide), hT 63 (by decide), hT 64 (by decide), List.getD_cons_succ, List.getD_cons_zero]
      clear hT eg10
      obtain ⟨W7, hW7⟩ : ∃ W : World, W = w9 := ⟨_, rfl⟩
      subst hW7
      have hn7 := HN11.out W7 HBL10.out
      have HF7 := Lib.hid hn7.1
      have HA11 := Lib.hid hn7.2.1
      have HM7 := Lib.hid hn7.2.2
      clear hn7
      clear c1
      go_wp2_with fail
      refine wp_region_a (by kernel_rfl) 65 rfl [40, 41, 42, 43, 44, 45, 46, 47, 48, 49, 50, 11, 65] (fun _ _ => True) (factsOf [Is (.pointer (some ⟨w.heap.size, 0, none⟩)), Is (.slice (some ⟨b, off, none⟩) n c), Is (.agg #[.slice (some ⟨b, off, none⟩) n c]), Is (.int .u64 (x : Int)), Is (.int .i64 2), Is (.int .u64 2), Is (.int .u64 ((x : Int) + 2)), Is (.int .u64 ((x + 1 : Nat) : Int)), Is (.int .i64 (i11 : Int)), Is (.pointer (some ⟨b, off + i11 * 6, none⟩)), Is (.agg #[.int .u64 p11.a, .int .i64 p11.prot, .bool p11.dirty, .string p11.file, .int .u64 p11.off, .string (strOfNums p11.b)]), AnyB, AnyB]) (JA [11, 12] [11] (PBx W7 #[.int .u64 p11.a, .int .i64 p11.prot, .bool p11.dirty, .string p11.file, .int .u64 p11.off, .string (strOfNums p11.b)] 11 12 11)) ?mono7 ?hj7 (by kernel_rfl) ?start7 ?steps7 ?fin7
      case mono7 => exact factsOf_monoR (monoR_cons (Is.monoR _ _) (monoR_cons (Is.monoR _ _) (monoR_cons (Is.monoR _ _) (monoR_cons (Is.monoR _ _) (monoR_cons (Is.monoR _ _) (monoR_cons (Is.monoR _ _) (monoR_cons (Is.monoR _ _) (monoR_cons (Is.monoR _ _) (monoR_cons (Is.monoR _ _) (monoR_cons (Is.monoR _ _) (monoR_cons (Is.monoR _ _) (monoR_cons (AnyB.monoR _) (monoR_cons (AnyB.monoR _) (monoR_nil _))))))))))))))
      case hj7 => exact JA.congr (by decide)
      case start7 =>
        refine JA.of fun L' y' h1 h2 => ?_
        exact ⟨Below.drew (Below.refl _ _), (fun h => by rw [h1 11 (by decide)] at h; cases h)⟩
      case fin7 =>
        intro y L w9 hJ hall hF hT
        have hP := hJ.out
        clear hJ hF
        obtain ⟨g11, eg11, hge, -, hblk⟩ := hP.a (hall 11 (by decide))
        have HK11 := Lib.hid (hblk (hall 12 (by decide)))
        have HBL11 := Lib.hid hP.bel
        have HGE11 := Lib.hid hge
        clear hP hall hblk hge
        rw [frFt]
        simp only [eg11, hT 0 (by decide), hT 1 (by decide), hT 2 (by decide), hT 3 (by decide), hT 4 (by decide), hT 5 (by decide), hT 6 (by decide), hT 7 (by decide), hT 8 (by decide), hT 9 (by decide), hT 10 (by decide), hT 12 (by decide), hT 13 (by decide), hT 14 (by decide), hT 15 (by decide), hT 16 (by decide), hT 17 (by decide), hT 18 (by decide), hT 19 (by decide), hT 20 (by decide), hT 21 (by decide), hT 22 (by decide), hT 23 (by decide), hT 24 (by decide), hT 25 (by decide), hT 26 (by decide), hT 27 (by decide), hT 28 (by decide), hT 29 (by decide), hT 30 (by decide), hT 31 (by decide), hT 32 (by decide), hT 33 (by decide), hT 34 (by decide), hT 35 (by decide), hT 36 (by decide), hT 37 (by decide), hT 38 (by decide), hT 39 (by decide), hT 51 (by decide), hT 52 (by decide), hT 53 (by decide), hT 54 (by decide), hT 55 (by decide), hT 56 (by decide), hT 57 (by decide), hT 58 (by decide), hT 59 (by decide), hT 60 (by decide), hT 61 (by decide), hT 62 (by decide), hT 63 (by decide), hT 64 (by decide), List.getD_cons_succ, List.getD_cons_zero]
        clear hT eg11
        obtain ⟨W8, hW8⟩ : ∃ W : World, W = w9 := ⟨_, rfl⟩
        subst hW8
        have HK10' : Hid (Blk W8 g10 #[.int .u64 p10.a, .int .i64 p10.prot, .bool p10.dirty, .string p10.file, .int .u64 p10.off, .string (strOfNums p10.b)] 66) := Lib.hid (HK10.out.later HBL11.out)
        have c10 : W8.cell? ⟨g10, 1, none⟩ = some (.int .i64 p10.prot) := HK10'.out.cell 1
        have c11 : W8.cell? ⟨g11, 1, none⟩ = some (.int .i64 p11.prot) := HK11.out.cell 1
        have HEND : Hid (Below w.heap.size w W8) := Lib.hid (HBA.out.trans ((HBL10.out.trans (HBL11.out.mono HBL10.out.size)).mono HBA.out.size))
        have hpp10 := HP10.out
        have hpp11 := HP11.out
        by_cases hq10 : p10.prot / 4 % 2 = 0
        · have HQ : Hid (Z = 41) := Lib.hid (by rw [HZ2.out]; exact if_pos (by rw [Bool.or_eq_true, beq_iff_eq, beq_iff_eq]; exact Or.inl hq10))
          go_wp2
          go_ret
          exact ⟨by rw [HQ.out]; rfl, HEND.out⟩
        · go_wp2
          all_goals go_ret
          all_goals refine ⟨?_, HEND.out⟩
          all_goals rw [HZ2.out]
          all_goals (split <;> rename_i hx hsp <;> first | rfl | (exfalso; simp at hx hsp; omega))
      case steps7 =>
        refine ⟨?_, ?_, ?_, ?_, ?_, ?_, ?_, ?_, ?_, ?_, ?_, ?_, ?_, trivial⟩
        all_goals intro L y w9 hJ hL hy0 hp0 hcl hun
        all_goals have hy := Lib.hid hy0
        all_goals have hp := Lib.hid hp0
        all_goals have HJ := Lib.hid hJ
        all_goals have HP := Lib.hid hJ.out
        all_goals have hU := Lib.hid hun
        all_goals clear hy0 hp0 hun hJ
        · have e1 : y 4 = .pointer (some ⟨w.heap.size, 0, none⟩) := hy.out 4 (by decide)
          intro K Q hK
          clear hcl hL
          have v1 := (eval_frame 65 y [] (t := 4) (by decide)).trans e1
          obtain ⟨A, hA⟩ : ∃ A, (⟨frameOf 65 y, []⟩ : Act) = A := ⟨_, rfl⟩
          rw [hA] at v1 hK ⊢
          clear hA hy hp
          simp only [Act.eval] at v1
          go_simp
          exact hK _ _ ⟨trivial, fun _ => rfl, HJ.out.pure (by decide) (by decide)⟩
        · have e1 : y 40 = .pointer (some ⟨w.heap.size, 0, none⟩) := (hp.out 0 (by decide)).2 (by decide)
          have q0 : w9.cell? ⟨w.heap.size, 0, none⟩ = some (.slice (some ⟨b, off, none⟩) n c) := (fun (_ : Nat) => HM7.out _ HP.out.bel) 0
          intro K Q hK
          clear hcl hL
          have v1 := (eval_frame 65 y [] (t := 40) (by decide)).trans e1
          obtain ⟨A, hA⟩ : ∃ A, (⟨frameOf 65 y, []⟩ : Act) = A := ⟨_, rfl⟩
          rw [hA] at v1 hK ⊢
          clear hA hy hp
          simp only [Act.eval] at v1
          go_simp
          exact hK _ _ ⟨trivial, fun _ => rfl, HJ.out.pure (by decide) (by decide)⟩
        · have e1 : y 4 = .pointer (some ⟨w.heap.size, 0, none⟩) := hy.out 4 (by decide)
          have q0 : w9.cell? ⟨w.heap.size, 0, none⟩ = some (.slice (some ⟨b, off, none⟩) n c) := (fun (_ : Nat) => HM7.out _ HP.out.bel) 0
          intro K Q hK
          clear hcl hL
          have v1 := (eval_frame 65 y [] (t := 4) (by decide)).trans e1
          obtain ⟨A, hA⟩ : ∃ A, (⟨frameOf 65 y, []⟩ : Act) = A := ⟨_, rfl⟩
          rw [hA] at v1 hK ⊢
          clear hA hy hp
          simp only [Act.eval] at v1
          go_simp
          exact hK _ _ ⟨trivial, fun _ => rfl, HJ.out.pure (by decide) (by decide)⟩
        · have e1 : y 1 = .int .u64 (x : Int) := hy.out 1 (by decide)
          intro K Q hK
          clear hcl hL
          have v1 := (eval_frame 65 y [] (t := 1) (by decide)).trans e1
          obtain ⟨A, hA⟩ : ∃ A, (⟨frameOf 65 y, []⟩ : Act) = A := ⟨_, rfl⟩
          rw [hA] at v1 hK ⊢
          clear hA hy hp
          simp only [Act.eval] at v1
          go_simp
          exact hK _ _ ⟨trivial, fun _ => rfl, HJ.out.pure (by decide) (by decide)⟩
        · have e1 : y 2 = .int .i64 2 := hy.out 2 (by decide)
          intro K Q hK
          clear hcl hL
          have v1 := (eval_frame 65 y [] (t := 2) (by decide)).trans e1
          obtain ⟨A, hA⟩ : ∃ A, (⟨frameOf 65 y, []⟩ : Act) = A := ⟨_, rfl⟩
          rw [hA] at v1 hK ⊢
          clear hA hy hp
          simp only [Act.eval] at v1
          go_simp
          exact hK _ _ ⟨trivial, fun _ => rfl, HJ.out.pure (by decide) (by decide)⟩
        · have e1 : y 44 = .int .i64 2 := (hp.out 4 (by decide)).2 (by decide)
          intro K Q hK
          clear hcl hL
          have v1 := (eval_frame 65 y [] (t := 44) (by decide)).trans e1
          obtain ⟨A, hA⟩ : ∃ A, (⟨frameOf 65 y, []⟩ : Act) = A := ⟨_, rfl⟩
          rw [hA] at v1 hK ⊢
          clear hA hy hp
          simp only [Act.eval] at v1
          go_simp
          exact hK _ _ ⟨trivial, fun _ => rfl, HJ.out.pure (by decide) (by decide)⟩
        · have e1 : y 43 = .int .u64 (x : Int) := (hp.out 3 (by decide)).2 (by decide)
          have e2 : y 45 = .int .u64 2 := (hp.out 5 (by decide)).2 (by decide)
          have hwx := HWX.out
          intro K Q hK
          clear hcl hL
          have v1 := (eval_frame 65 y [] (t := 43) (by decide)).trans e1
          have v2 := (eval_frame 65 y [] (t := 45) (by decide)).trans e2
          obtain ⟨A, hA⟩ : ∃ A, (⟨frameOf 65 y, []⟩ : Act) = A := ⟨_, rfl⟩
          rw [hA] at v1 v2 hK ⊢
          clear hA hy hp
          simp only [Act.eval] at v1 v2
          go_simp
          first | exact hK _ _ ⟨trivial, fun _ => rfl, HJ.out.pure (by decide) (by decide)⟩ | (rw [hwx]; exact hK _ _ ⟨trivial, fun _ => rfl, HJ.out.pure (by decide) (by decide)⟩)
        · have e1 : y 46 = .int .u64 ((x : Int) + 2) := (hp.out 6 (by decide)).2 (by decide)
          have hwy := HWY.out
          intro K Q hK
          clear hcl hL
          have v1 := (eval_frame 65 y [] (t := 46) (by decide)).trans e1
          obtain ⟨A, hA⟩ : ∃ A, (⟨frameOf 65 y, []⟩ : Act) = A := ⟨_, rfl⟩
          rw [hA] at v1 hK ⊢
          clear hA hy hp
          simp only [Act.eval] at v1
          go_simp
          first | exact hK _ _ ⟨trivial, fun _ => rfl, HJ.out.pure (by decide) (by decide)⟩ | (rw [hwy]; exact hK _ _ ⟨trivial, fun _ => rfl, HJ.out.pure (by decide) (by decide)⟩)
        · have e1 : y 42 = .agg #[.slice (some ⟨b, off, none⟩) n c] := (hp.out 2 (by decide)).2 (by decide)
          have e2 : y 47 = .int .u64 ((x + 1 : Nat) : Int) := (hp.out 7 (by decide)).2 (by decide)
          intro K Q hK
          clear hcl hL
          have v1 := (eval_frame 65 y [] (t := 42) (by decide)).trans e1
          have v2 := (eval_frame 65 y [] (t := 47) (by decide)).trans e2
          obtain ⟨A, hA⟩ : ∃ A, (⟨frameOf 65 y, []⟩ : Act) = A := ⟨_, rfl⟩
          rw [hA] at v1 v2 hK ⊢
          clear hA hy hp
          simp only [Act.eval] at v1 v2
          go_simp
          refine (HF7.out _ HP.out.bel).mono ?_
          rintro r w5 ⟨rfl, rfl⟩
          exact hK _ _ ⟨trivial, fun _ => rfl, JA.step fun L' y' h1 h2 h3 h4 => HP.out.alloc _ (h1 11 (by decide) (by decide)) (h1 12 (by decide) (by decide)) (h3 11 (by decide) (by decide))⟩
        · have e1 : y 41 = .slice (some ⟨b, off, none⟩) n c := (hp.out 1 (by decide)).2 (by decide)
          have e2 : y 48 = .int .i64 (i11 : Int) := (hp.out 8 (by decide)).2 (by decide)
          have hil := HI11.out
          intro K Q hK
          clear hcl hL
          have v1 := (eval_frame 65 y [] (t := 41) (by decide)).trans e1
          have v2 := (eval_frame 65 y [] (t := 48) (by decide)).trans e2
          obtain ⟨A, hA⟩ : ∃ A, (⟨frameOf 65 y, []⟩ : Act) = A := ⟨_, rfl⟩
          rw [hA] at v1 v2 hK ⊢
          clear hA hy hp
          simp only [Act.eval] at v1 v2
          go_simp
          first | exact hK _ _ ⟨trivial, fun _ => rfl, HJ.out.pure (by decide) (by decide)⟩ | (rw [if_pos ⟨by omega, by omega⟩]; exact hK _ _ ⟨trivial, fun _ => rfl, HJ.out.pure (by decide) (by decide)⟩)
        · have e1 : y 49 = .pointer (some ⟨b, off + i11 * 6, none⟩) := (hp.out 9 (by decide)).2 (by decide)
          obtain ⟨c0, c1, c2, c3, c4, c5⟩ := HA11.out _ HP.out.bel
          intro K Q hK
          clear hcl hL
          have v1 := (eval_frame 65 y [] (t := 49) (by decide)).trans e1
          obtain ⟨A, hA⟩ : ∃ A, (⟨frameOf 65 y, []⟩ : Act) = A := ⟨_, rfl⟩
          rw [hA] at v1 hK ⊢
          clear hA hy hp
          simp only [Act.eval] at v1
          go_simp
          exact hK _ _ ⟨trivial, fun _ => rfl, HJ.out.pure (by decide) (by decide)⟩
        · have hN12 : L 12 = false := by
            cases h : L 12 with
            | false => rfl
            | true => have := (hcl 12 _ rfl h 11 (by decide)); rw [hL] at this; cases this
          intro K Q hK
          clear hcl hL
          obtain ⟨A, hA⟩ : ∃ A, (⟨frameOf 65 y, []⟩ : Act) = A := ⟨_, rfl⟩
          rw [hA] at hK ⊢
          clear hA hy hp
          go_simp
          exact hK _ _ ⟨trivial, fun _ => trivial, JA.step fun L' y' h1 h2 h3 h4 => ⟨HP.out.bel.alloc HP.out.bel.size _, fun _ => ⟨w9.heap.size, h4 (by decide), HP.out.bel.size, fun _ => Blk.new _ _ _, (fun h => by rw [h1 12 (by decide) (by decide), hN12] at h; cases h)⟩⟩⟩
        · have hL11 : L 11 = true := (hp.out 11 (by decide)).1
          obtain ⟨g, e1, hge, hz, -⟩ := HP.out.a hL11
          have e2 : y 50 = .agg #[.int .u64 p11.a, .int .i64 p11.prot, .bool p11.dirty, .string p11.file, .int .u64 p11.off, .string (strOfNums p11.b)] := (hp.out 10 (by decide)).2 (by decide)
          have hN12 : L 12 = false := hL
          obtain ⟨q0, q1, q2, q3, q4, q5⟩ := Rp.cs (hz hN12)
          obtain ⟨f0, f1, f2, f3, f4, f5⟩ := Rp.fs (hz hN12)
          have hzb := Lib.hid (hz hN12)
          have ey := e1
          intro K Q hK
          clear hcl hL
          have v1 := (eval_frame 65 y [] (t := 11) (by decide)).trans e1
          have v2 := (eval_frame 65 y [] (t := 50) (by decide)).trans e2
          obtain ⟨A, hA⟩ : ∃ A, (⟨frameOf 65 y, []⟩ : Act) = A := ⟨_, rfl⟩
          rw [hA] at v1 v2 hK ⊢
          clear hA hy hp
          simp only [Act.eval] at v1 v2
          go_simp
          exact hK undef _ ⟨trivial, fun h => absurd h (by decide), JA.step fun L' y' h1 h2 h3 h4 => PBx.stored HP.out.bel hzb.out hge ((h3 11 (by decide) (by decide)).trans ey) (h2 (by decide))⟩

    case steps6 =>
      refine ⟨?_, ?_, ?_, ?_, ?_, ?_, ?_, ?_, ?_, trivial⟩
      all_goals intro L y w9 hJ hL hy0 hp0 hcl hun
      all_goals have hy := Lib.hid hy0
      all_goals have hp := Lib.hid hp0
      all_goals have HJ := Lib.hid hJ
      all_goals have HP := Lib.hid hJ.out
      all_goals have hU := Lib.hid hun
      all_goals clear hy0 hp0 hun hJ
      · have e1 : y 4 = .pointer (some ⟨w.heap.size, 0, none⟩) := hy.out 4 (by decide)
        intro K Q hK
        clear hcl hL
        have v1 := (eval_frame 65 y [] (t := 4) (by decide)).trans e1
        obtain ⟨A, hA⟩ : ∃ A, (⟨frameOf 65 y, []⟩ : Act) = A := ⟨_, rfl⟩
        rw [hA] at v1 hK ⊢
        clear hA hy hp
        simp only [Act.eval] at v1
        go_simp
        exact hK _ _ ⟨trivial, fun _ => rfl, HJ.out.pure (by decide) (by decide)⟩
      · have e1 : y 33 = .pointer (some ⟨w.heap.size, 0, none⟩) := (hp.out 0 (by decide)).2 (by decide)
        have q0 : w9.cell? ⟨w.heap.size, 0, none⟩ = some (.slice (some ⟨b, off, none⟩) n c) := (fun (_ : Nat) => HM6.out _ HP.out.bel) 0
        intro K Q hK
        clear hcl hL
        have v1 := (eval_frame 65 y [] (t := 33) (by decide)).trans e1
        obtain ⟨A, hA⟩ : ∃ A, (⟨frameOf 65 y, []⟩ : Act) = A := ⟨_, rfl⟩
        rw [hA] at v1 hK ⊢
        clear hA hy hp
        simp only [Act.eval] at v1
        go_simp
        exact hK _ _ ⟨trivial, fun _ => rfl, HJ.out.pure (by decide) (by decide)⟩
      · have e1 : y 4 = .pointer (some ⟨w.heap.size, 0, none⟩) := hy.out 4 (by decide)
        have q0 : w9.cell? ⟨w.heap.size, 0, none⟩ = some (.slice (some ⟨b, off, none⟩) n c) := (fun (_ : Nat) => HM6.out _ HP.out.bel) 0
        intro K Q hK
        clear hcl hL
        have v1 := (eval_frame 65 y [] (t := 4) (by decide)).trans e1
        obtain ⟨A, hA⟩ : ∃ A, (⟨frameOf 65 y, []⟩ : Act) = A := ⟨_, rfl⟩
        rw [hA] at v1 hK ⊢
        clear hA hy hp
        simp only [Act.eval] at v1
        go_simp
        exact hK _ _ ⟨trivial, fun _ => rfl, HJ.out.pure (by decide) (by decide)⟩
      · have e1 : y 1 = .int .u64 (x : Int) := hy.out 1 (by decide)
        intro K Q hK
        clear hcl hL
        have v1 := (eval_frame 65 y [] (t := 1) (by decide)).trans e1
        obtain ⟨A, hA⟩ : ∃ A, (⟨frameOf 65 y, []⟩ : Act) = A := ⟨_, rfl⟩
        rw [hA] at v1 hK ⊢
        clear hA hy hp
        simp only [Act.eval] at v1
        go_simp
        exact hK _ _ ⟨trivial, fun _ => rfl, HJ.out.pure (by decide) (by decide)⟩
      · have e1 : y 35 = .agg #[.slice (some ⟨b, off, none⟩) n c] := (hp.out 2 (by decide)).2 (by decide)
        have e2 : y 36 = .int .u64 (x : Int) := (hp.out 3 (by decide)).2 (by decide)
        intro K Q hK
        clear hcl hL
        have v1 := (eval_frame 65 y [] (t := 35) (by decide)).trans e1
        have v2 := (eval_frame 65 y [] (t := 36) (by decide)).trans e2
        obtain ⟨A, hA⟩ : ∃ A, (⟨frameOf 65 y, []⟩ : Act) = A := ⟨_, rfl⟩
        rw [hA] at v1 v2 hK ⊢
        clear hA hy hp
        simp only [Act.eval] at v1 v2
        go_simp
        refine (HF6.out _ HP.out.bel).mono ?_
        rintro r w5 ⟨rfl, rfl⟩
        exact hK _ _ ⟨trivial, fun _ => rfl, JA.step fun L' y' h1 h2 h3 h4 => HP.out.alloc _ (h1 7 (by decide) (by decide)) (h1 8 (by decide) (by decide)) (h3 10 (by decide) (by decide))⟩
      · have e1 : y 34 = .slice (some ⟨b, off, none⟩) n c := (hp.out 1 (by decide)).2 (by decide)
        have e2 : y 37 = .int .i64 (i10 : Int) := (hp.out 4 (by decide)).2 (by decide)
        have hil := HI10.out
        intro K Q hK
        clear hcl hL
        have v1 := (eval_frame 65 y [] (t := 34) (by decide)).trans e1
        have v2 := (eval_frame 65 y [] (t := 37) (by decide)).trans e2
        obtain ⟨A, hA⟩ : ∃ A, (⟨frameOf 65 y, []⟩ : Act) = A := ⟨_, rfl⟩
        rw [hA] at v1 v2 hK ⊢
        clear hA hy hp
        simp only [Act.eval] at v1 v2
        go_simp
        first | exact hK _ _ ⟨trivial, fun _ => rfl, HJ.out.pure (by decide) (by decide)⟩ | (rw [if_pos ⟨by omega, by omega⟩]; exact hK _ _ ⟨trivial, fun _ => rfl, HJ.out.pure (by decide) (by decide)⟩)
      · have e1 : y 38 = .pointer (some ⟨b, off + i10 * 6, none⟩) := (hp.out 5 (by decide)).2 (by decide)
        obtain ⟨c0, c1, c2, c3, c4, c5⟩ := HA10.out _ HP.out.bel
        intro K Q hK
        clear hcl hL
        have v1 := (eval_frame 65 y [] (t := 38) (by decide)).trans e1
        obtain ⟨A, hA⟩ : ∃ A, (⟨frameOf 65 y, []⟩ : Act) = A := ⟨_, rfl⟩
        rw [hA] at v1 hK ⊢
        clear hA hy hp
        simp only [Act.eval] at v1
        go_simp
        exact hK _ _ ⟨trivial, fun _ => rfl, HJ.out.pure (by decide) (by decide)⟩
      · have hN8 : L 8 = false := by
          cases h : L 8 with
          | false => rfl
          | true => have := (hcl 8 _ rfl h 7 (by decide)); rw [hL] at this; cases this
        intro K Q hK
        clear hcl hL
        obtain ⟨A, hA⟩ : ∃ A, (⟨frameOf 65 y, []⟩ : Act) = A := ⟨_, rfl⟩
        rw [hA] at hK ⊢
        clear hA hy hp
        go_simp
        exact hK _ _ ⟨trivial, fun _ => trivial, JA.step fun L' y' h1 h2 h3 h4 => ⟨HP.out.bel.alloc HP.out.bel.size _, fun _ => ⟨w9.heap.size, h4 (by decide), HP.out.bel.size, fun _ => Blk.new _ _ _, (fun h => by rw [h1 8 (by decide) (by decide), hN8] at h; cases h)⟩⟩⟩
      · have hL7 : L 7 = true := (hp.out 7 (by decide)).1
        obtain ⟨g, e1, hge, hz, -⟩ := HP.out.a hL7
        have e2 : y 39 = .agg #[.int .u64 p10.a, .int .i64 p10.prot, .bool p10.dirty, .string p10.file, .int .u64 p10.off, .string (strOfNums p10.b)] := (hp.out 6 (by decide)).2 (by decide)
        have hN8 : L 8 = false := hL
        obtain ⟨q0, q1, q2, q3, q4, q5⟩ := Rp.cs (hz hN8)
        obtain ⟨f0, f1, f2, f3, f4, f5⟩ := Rp.fs (hz hN8)
        have hzb := Lib.hid (hz hN8)
        have ey := e1
        intro K Q hK
        clear hcl hL
        have v1 := (eval_frame 65 y [] (t := 10) (by decide)).trans e1
        have v2 := (eval_frame 65 y [] (t := 39) (by decide)).trans e2
        obtain ⟨A, hA⟩ : ∃ A, (⟨frameOf 65 y, []⟩ : Act) = A := ⟨_, rfl⟩
        rw [hA] at v1 v2 hK ⊢
        clear hA hy hp
        simp only [Act.eval] at v1 v2
        go_simp
        exact hK undef _ ⟨trivial, fun h => absurd h (by decide), JA.step fun L' y' h1 h2 h3 h4 => PBx.stored HP.out.bel hzb.out hge ((h3 10 (by decide) (by decide)).trans ey) (h2 (by decide))⟩

set_option maxHeartbeats 12800000 in
set_option maxRecDepth 100000 in
theorem fits4_4 {w : World} {B : Nat} {a : Option Addr} {n c : Nat} {M : List Pg} (h : RAt w B a n c M) (hB : B ≤ w.heap.size) (x : Nat) (x1 : x ≤ 18446744073709551615) :
    Calls Try.prog 43 #[mv a n c, .int .u64 x, .int .i64 4, .int .i64 4] w fun e w' => e = .returned (.int .i64 (fitsZ M x 4 4)) ∧ Below w.heap.size w w' := by
  have HH := Lib.hid h
  have HB := Lib.hid hB
  have hnn := fits_none (M := M) (x := x) (n := 4) (r := 4) (by decide)
  obtain ⟨Z, hZ⟩ : ∃ Z, fitsZ M x 4 4 = Z := ⟨_, rfl⟩
  rw [hZ] at hnn ⊢
  have HNN := Lib.hid hnn
  have HZZ := Lib.hid hZ
  have HB1 : Hid (Below w.heap.size w (w.alloc (.cells #[.slice a n c] 34))) := Lib.hid ((Below.refl _ _).alloc (Nat.le_refl _) _)
  have BX := Lib.hid (Blk.new w #[.slice a n c] 34)
  have HTH := Lib.hid (there_ok (h.below ((Below.refl _ _).alloc hB (.cells #[.slice a n c] 34))) (by simp; omega) x 4 x1 (by omega) (by omega))
  obtain ⟨T, hT⟩ : ∃ T, (spanP M x 4).isSome = T := ⟨_, rfl⟩
  rw [hT] at HTH
  have HT := Lib.hid hT
  have HX1 := Lib.hid x1
  have hc0 : (w.alloc (.cells #[.slice a n c] 34)).cell? ⟨w.heap.size, 0, none⟩ = some (.slice a n c) := BX.out.cell 0
  unfold mv at *
  clear h hB hZ hnn hT
  go_enter Try.func43, Try.ntmps43
  go_wp2_with fail
  refine HTH.out.mono ?_
  rintro r1 w1 ⟨rfl, hb1⟩
  rw [World.size_alloc] at hb1
  have HBA : Hid (Below w.heap.size w w1) := Lib.hid (HB1.out.trans (hb1.mono (by omega)))
  have HK0 : Hid (Blk w1 w.heap.size #[.slice a n c] 34) := Lib.hid (BX.out.below hb1 (by omega))
  have c1 : w1.cell? ⟨w.heap.size, 0, none⟩ = some (.slice a n c) := HK0.out.cell 0
  clear hb1 hc0 HTH
  cases T with
  | false =>
    have HZ0 := Lib.hid (HNN.out HT.out)
    go_wp2
    go_ret
    exact ⟨by rw [HZ0.out]; rfl, HBA.out⟩
  | true =>
    obtain ⟨b, off, i10, i11, p10, p11, rfl, HI10, HI11, HA10, HF6, HP10, HP11, HZ1, HM6, HN11, HTOP⟩ := fits_facts (r := 4) (N := 4) (Y := (x + 3)) (by decide) (HH.out.below (HBA.out.mono HB.out)) (Nat.le_trans HB.out HBA.out.size) HK0.out HX1.out (by decide) (by omega) HT.out
    have HWX : Hid (IntKind.u64.wrap ((x : Int) + 4) = (x : Int) + 4) := Lib.hid (by rw [IntKind.wrap_u64]; have := HTOP.out; omega)
    have HWY : Hid (IntKind.u64.wrap ((x : Int) + 4 - 1) = ((x + 3) : Nat)) := Lib.hid (by rw [IntKind.wrap_u64]; have := HTOP.out; omega)
    have hz1 := HZ1.out
    rw [show fitsZ M x (4 : Nat) 4 = fitsZ M x 4 4 from rfl, HZZ.out] at hz1
    have HZ2 := Lib.hid hz1
    obtain ⟨W6, hW6⟩ : ∃ W : World, W = w1 := ⟨_, rfl⟩
    subst hW6
    clear hz1 HZ1 HNN HZZ BX x1
    go_wp2_with fail
    refine wp_region_a (by kernel_rfl) 65 rfl [33, 34, 35, 36, 37, 38, 39, 10, 65] (fun _ _ => True) (factsOf [Is (.pointer (some ⟨w.heap.size, 0, none⟩)), Is (.slice (some ⟨b, off, none⟩) n c), Is (.agg #[.slice (some ⟨b, off, none⟩) n c]), Is (.int .u64 (x : Int)), Is (.int .i64 (i10 : Int)), Is (.pointer (some ⟨b, off + i10 * 6, none⟩)), Is (.agg #[.int .u64 p10.a, .int .i64 p10.prot, .bool p10.dirty, .string p10.file, .int .u64 p10.off, .string (strOfNums p10.b)]), AnyB, AnyB]) (JA [7, 8] [10] (PBx W6 #[.int .u64 p10.a, .int .i64 p10.prot, .bool p10.dirty, .string p10.file, .int .u64 p10.off, .string (strOfNums p10.b)] 7 8 10)) ?mono6 ?hj6 (by kernel_rfl) ?start6 ?steps6 ?fin6
    case mono6 => exact factsOf_monoR (monoR_cons (Is.monoR _ _) (monoR_cons (Is.monoR _ _) (monoR_cons (Is.monoR _ _) (monoR_cons (Is.monoR _ _) (monoR_cons (Is.monoR _ _) (monoR_cons (Is.monoR _ _) (monoR_cons (Is.monoR _ _) (monoR_cons (AnyB.monoR _) (monoR_cons (AnyB.monoR _) (monoR_nil _))))))))))
    case hj6 => exact JA.congr (by decide)
    case start6 =>
      refine JA.of fun L' y' h1 h2 => ?_
      exact ⟨Below.drew (Below.refl _ _), (fun h => by rw [h1 7 (by decide)] at h; cases h)⟩
    case fin6 =>
      intro y L w9 hJ hall hF hT
      have hP := hJ.out
      clear hJ hF
      obtain ⟨g10, eg10, hge, -, hblk⟩ := hP.a (hall 7 (by decide))
      have HK10 := Lib.hid (hblk (hall 8 (by decide)))
      have HBL10 := Lib.hid hP.bel
      have HGE10 := Lib.hid hge
      clear hP hall hblk hge
      rw [frFt]
      simp only [eg10, hT 0 (by decide), hT 1 (by decide), hT 2 (by decide), hT 3 (by decide), hT 4 (by decide), hT 5 (by decide), hT 6 (by decide), hT 7 (by decide), hT 8 (by decide), hT 9 (by decide), hT 11 (by decide), hT 12 (by decide), hT 13 (by decide), hT 14 (by decide), hT 15 (by decide), hT 16 (by decide), hT 17 (by decide), hT 18 (by decide), hT 19 (by decide), hT 20 (by decide), hT 21 (by decide), hT 22 (by decide), hT 23 (by decide), hT 24 (by decide), hT 25 (by decide), hT 26 (by decide), hT 27 (by decide), hT 28 (by decide), hT 29 (by decide), hT 30 (by decide), hT 31 (by decide), hT 32 (by decide), hT 40 (by decide), hT 41 (by decide), hT 42 (by decide), hT 43 (by decide), hT 44 (by decide), hT 45 (by decide), hT 46 (by decide), hT 47 (by decide), hT 48 (by decide), hT 49 (by decide), hT 50 (by decide), hT 51 (by decide), hT 52 (by decide), hT 53 (by decide), hT 54 (by decide), hT 55 (by decide), hT 56 (by decide), hT 57 (by decide), hT 58 (by decide), hT 59 (by decide), hT 60 (by decide), hT 61 (by decide), hT 62 (by decide), hT 63 (by decide), hT 64 (by decide), List.getD_cons_succ, List.getD_cons_zero]
      clear hT eg10
      obtain ⟨W7, hW7⟩ : ∃ W : World, W = w9 := ⟨_, rfl⟩
      subst hW7
      have hn7 := HN11.out W7 HBL10.out
      have HF7 := Lib.hid hn7.1
      have HA11 := Lib.hid hn7.2.1
      have HM7 := Lib.hid hn7.2.2
      clear hn7
      clear c1
      go_wp2_with fail
      refine wp_region_a (by kernel_rfl) 65 rfl [40, 41, 42, 43, 44, 45, 46, 47, 48, 49, 50, 11, 65] (fun _ _ => True) (factsOf [Is (.pointer (some ⟨w.heap.size, 0, none⟩)), Is (.slice (some ⟨b, off, none⟩) n c), Is (.agg #[.slice (some ⟨b, off, none⟩) n c]), Is (.int .u64 (x : Int)), Is (.int .i64 4), Is (.int .u64 4), Is (.int .u64 ((x : Int) + 4)), Is (.int .u64 ((x + 3 : Nat) : Int)), Is (.int .i64 (i11 : Int)), Is (.pointer (some ⟨b, off + i11 * 6, none⟩)), Is (.agg #[.int .u64 p11.a, .int .i64 p11.prot, .bool p11.dirty, .string p11.file, .int .u64 p11.off, .string (strOfNums p11.b)]), AnyB, AnyB]) (JA [11, 12] [11] (PBx W7 #[.int .u64 p11.a, .int .i64 p11.prot, .bool p11.dirty, .string p11.file, .int .u64 p11.off, .string (strOfNums p11.b)] 11 12 11)) ?mono7 ?hj7 (by kernel_rfl) ?start7 ?steps7 ?fin7
      case mono7 => exact factsOf_monoR (monoR_cons (Is.monoR _ _) (monoR_cons (Is.monoR _ _) (monoR_cons (Is.monoR _ _) (monoR_cons (Is.monoR _ _) (monoR_cons (Is.monoR _ _) (monoR_cons (Is.monoR _ _) (monoR_cons (Is.monoR _ _) (monoR_cons (Is.monoR _ _) (monoR_cons (Is.monoR _ _) (monoR_cons (Is.monoR _ _) (monoR_cons (Is.monoR _ _) (monoR_cons (AnyB.monoR _) (monoR_cons (AnyB.monoR _) (monoR_nil _))))))))))))))
      case hj7 => exact JA.congr (by decide)
      case start7 =>
        refine JA.of fun L' y' h1 h2 => ?_
        exact ⟨Below.drew (Below.refl _ _), (fun h => by rw [h1 11 (by decide)] at h; cases h)⟩
      case fin7 =>
        intro y L w9 hJ hall hF hT
        have hP := hJ.out
        clear hJ hF
        obtain ⟨g11, eg11, hge, -, hblk⟩ := hP.a (hall 11 (by decide))
        have HK11 := Lib.hid (hblk (hall 12 (by decide)))
        have HBL11 := Lib.hid hP.bel
        have HGE11 := Lib.hid hge
        clear hP hall hblk hge
        rw [frFt]
        simp only [eg11, hT 0 (by decide), hT 1 (by decide), hT 2 (by decide), hT 3 (by decide), hT 4 (by decide), hT 5 (by decide), hT 6 (by decide), hT 7 (by decide), hT 8 (by decide), hT 9 (by decide), hT 10 (by decide), hT 12 (by decide), hT 13 (by decide), hT 14 (by decide), hT 15 (by decide), hT 16 (by decide), hT 17 (by decide), hT 18 (by decide), hT 19 (by decide), hT 20 (by decide), hT 21 (by decide), hT 22 (by decide), hT 23 (by decide), hT 24 (by decide), hT 25 (by decide), hT 26 (by decide), hT 27 (by decide), hT 28 (by decide), hT 29 (by decide), hT 30 (by decide), hT 31 (by decide), hT 32 (by decide), hT 33 (by decide), hT 34 (by decide), hT 35 (by decide), hT 36 (by decide), hT 37 (by decide), hT 38 (by decide), hT 39 (by decide), hT 51 (by decide), hT 52 (by decide), hT 53 (by decide), hT 54 (by decide), hT 55 (by decide), hT 56 (by decide), hT 57 (by decide), hT 58 (by decide), hT 59 (by decide), hT 60 (by decide), hT 61 (by decide), hT 62 (by decide), hT 63 (by decide), hT 64 (by decide), List.getD_cons_succ, List.getD_cons_zero]
        clear hT eg11
        obtain ⟨W8, hW8⟩ : ∃ W : World, W = w9 := ⟨_, rfl⟩
        subst hW8
        have HK10' : Hid (Blk W8 g10 #[.int .u64 p10.a, .int .i64 p10.prot, .bool p10.dirty, .string p10.file, .int .u64 p10.off, .string (strOfNums p10.b)] 66) := Lib.hid (HK10.out.later HBL11.out)
        have c10 : W8.cell? ⟨g10, 1, none⟩ = some (.int .i64 p10.prot) := HK10'.out.cell 1
        have c11 : W8.cell? ⟨g11, 1, none⟩ = some (.int .i64 p11.prot) := HK11.out.cell 1
        have HEND : Hid (Below w.heap.size w W8) := Lib.hid (HBA.out.trans ((HBL10.out.trans (HBL11.out.mono HBL10.out.size)).mono HBA.out.size))
        have hpp10 := HP10.out
        have hpp11 := HP11.out
        by_cases hq10 : p10.prot / 4 % 2 = 0
        · have HQ : Hid (Z = 41) := Lib.hid (by rw [HZ2.out]; exact if_pos (by rw [Bool.or_eq_true, beq_iff_eq, beq_iff_eq]; exact Or.inl hq10))
          go_wp2
          go_ret
          exact ⟨by rw [HQ.out]; rfl, HEND.out⟩
        · go_wp2
          all_goals go_ret
          all_goals refine ⟨?_, HEND.out⟩
          all_goals rw [HZ2.out]
          all_goals (split <;> rename_i hx hsp <;> first | rfl | (exfalso; simp at hx hsp; omega))
      case steps7 =>
        refine ⟨?_, ?_, ?_, ?_, ?_, ?_, ?_, ?_, ?_, ?_, ?_, ?_, ?_, trivial⟩
        all_goals intro L y w9 hJ hL hy0 hp0 hcl hun
        all_goals have hy := Lib.hid hy0
        all_goals have hp := Lib.hid hp0
        all_goals have HJ := Lib.hid hJ
        all_goals have HP := Lib.hid hJ.out
        all_goals have hU := Lib.hid hun
        all_goals clear hy0 hp0 hun hJ
        · have e1 : y 4 = .pointer (some ⟨w.heap.size, 0, none⟩) := hy.out 4 (by decide)
          intro K Q hK
          clear hcl hL
          have v1 := (eval_frame 65 y [] (t := 4) (by decide)).trans e1
          obtain ⟨A, hA⟩ : ∃ A, (⟨frameOf 65 y, []⟩ : Act) = A := ⟨_, rfl⟩
          rw [hA] at v1 hK ⊢
          clear hA hy hp
          simp only [Act.eval] at v1
          go_simp
          exact hK _ _ ⟨trivial, fun _ => rfl, HJ.out.pure (by decide) (by decide)⟩
        · have e1 : y 40 = .pointer (some ⟨w.heap.size, 0, none⟩) := (hp.out 0 (by decide)).2 (by decide)
          have q0 : w9.cell? ⟨w.heap.size, 0, none⟩ = some (.slice (some ⟨b, off, none⟩) n c) := (fun (_ : Nat) => HM7.out _ HP.out.bel) 0
          intro K Q hK
          clear hcl hL
          have v1 := (eval_frame 65 y [] (t := 40) (by decide)).trans e1
          obtain ⟨A, hA⟩ : ∃ A, (⟨frameOf 65 y, []⟩ : Act) = A := ⟨_, rfl⟩
          rw [hA] at v1 hK ⊢
          clear hA hy hp
          simp only [Act.eval] at v1
          go_simp
          exact hK _ _ ⟨trivial, fun _ => rfl, HJ.out.pure (by decide) (by decide)⟩
        · have e1 : y 4 = .pointer (some ⟨w.heap.size, 0, none⟩) := hy.out 4 (by decide)
          have q0 : w9.cell? ⟨w.heap.size, 0, none⟩ = some (.slice (some ⟨b, off, none⟩) n c) := (fun (_ : Nat) => HM7.out _ HP.out.bel) 0
          intro K Q hK
          clear hcl hL
          have v1 := (eval_frame 65 y [] (t := 4) (by decide)).trans e1
          obtain ⟨A, hA⟩ : ∃ A, (⟨frameOf 65 y, []⟩ : Act) = A := ⟨_, rfl⟩
          rw [hA] at v1 hK ⊢
          clear hA hy hp
          simp only [Act.eval] at v1
          go_simp
          exact hK _ _ ⟨trivial, fun _ => rfl, HJ.out.pure (by decide) (by decide)⟩
        · have e1 : y 1 = .int .u64 (x : Int) := hy.out 1 (by decide)
          intro K Q hK
          clear hcl hL
          have v1 := (eval_frame 65 y [] (t := 1) (by decide)).trans e1
          obtain ⟨A, hA⟩ : ∃ A, (⟨frameOf 65 y, []⟩ : Act) = A := ⟨_, rfl⟩
          rw [hA] at v1 hK ⊢
          clear hA hy hp
          simp only [Act.eval] at v1
          go_simp
          exact hK _ _ ⟨trivial, fun _ => rfl, HJ.out.pure (by decide) (by decide)⟩
        · have e1 : y 2 = .int .i64 4 := hy.out 2 (by decide)
          intro K Q hK
          clear hcl hL
          have v1 := (eval_frame 65 y [] (t := 2) (by decide)).trans e1
          obtain ⟨A, hA⟩ : ∃ A, (⟨frameOf 65 y, []⟩ : Act) = A := ⟨_, rfl⟩
          rw [hA] at v1 hK ⊢
          clear hA hy hp
          simp only [Act.eval] at v1
          go_simp
          exact hK _ _ ⟨trivial, fun _ => rfl, HJ.out.pure (by decide) (by decide)⟩
        · have e1 : y 44 = .int .i64 4 := (hp.out 4 (by decide)).2 (by decide)
          intro K Q hK
          clear hcl hL
          have v1 := (eval_frame 65 y [] (t := 44) (by decide)).trans e1
          obtain ⟨A, hA⟩ : ∃ A, (⟨frameOf 65 y, []⟩ : Act) = A := ⟨_, rfl⟩
          rw [hA] at v1 hK ⊢
          clear hA hy hp
          simp only [Act.eval] at v1
          go_simp
          exact hK _ _ ⟨trivial, fun _ => rfl, HJ.out.pure (by decide) (by decide)⟩
        · have e1 : y 43 = .int .u64 (x : Int) := (hp.out 3 (by decide)).2 (by decide)
          have e2 : y 45 = .int .u64 4 := (hp.out 5 (by decide)).2 (by decide)
          have hwx := HWX.out
          intro K Q hK
          clear hcl hL
          have v1 := (eval_frame 65 y [] (t := 43) (by decide)).trans e1
          have v2 := (eval_frame 65 y [] (t := 45) (by decide)).trans e2
          obtain ⟨A, hA⟩ : ∃ A, (⟨frameOf 65 y, []⟩ : Act) = A := ⟨_, rfl⟩
          rw [hA] at v1 v2 hK ⊢
          clear hA hy hp
          simp only [Act.eval] at v1 v2
          go_simp
          first | exact hK _ _ ⟨trivial, fun _ => rfl, HJ.out.pure (by decide) (by decide)⟩ | (rw [hwx]; exact hK _ _ ⟨trivial, fun _ => rfl, HJ.out.pure (by decide) (by decide)⟩)
        · have e1 : y 46 = .int .u64 ((x : Int) + 4) := (hp.out 6 (by decide)).2 (by decide)
          have hwy := HWY.out
          intro K Q hK
          clear hcl hL
          have v1 := (eval_frame 65 y [] (t := 46) (by decide)).trans e1
          obtain ⟨A, hA⟩ : ∃ A, (⟨frameOf 65 y, []⟩ : Act) = A := ⟨_, rfl⟩
          rw [hA] at v1 hK ⊢
          clear hA hy hp
          simp only [Act.eval] at v1
          go_simp
          first | exact hK _ _ ⟨trivial, fun _ => rfl, HJ.out.pure (by decide) (by decide)⟩ | (rw [hwy]; exact hK _ _ ⟨trivial, fun _ => rfl, HJ.out.pure (by decide) (by decide)⟩)
        · have e1 : y 42 = .agg #[.slice (some ⟨b, off, none⟩) n c] := (hp.out 2 (by decide)).2 (by decide)
          have e2 : y 47 = .int .u64 ((x + 3 : Nat) : Int) := (hp.out 7 (by decide)).2 (by decide)
          intro K Q hK
          clear hcl hL
          have v1 := (eval_frame 65 y [] (t := 42) (by decide)).trans e1
          have v2 := (eval_frame 65 y [] (t := 47) (by decide)).trans e2
          obtain ⟨A, hA⟩ : ∃ A, (⟨frameOf 65 y, []⟩ : Act) = A := ⟨_, rfl⟩
          rw [hA] at v1 v2 hK ⊢
          clear hA hy hp
          simp only [Act.eval] at v1 v2
          go_simp
          refine (HF7.out _ HP.out.bel).mono ?_
          rintro r w5 ⟨rfl, rfl⟩
          exact hK _ _ ⟨trivial, fun _ => rfl, JA.step fun L' y' h1 h2 h3 h4 => HP.out.alloc _ (h1 11 (by decide) (by decide)) (h1 12 (by decide) (by decide)) (h3 11 (by decide) (by decide))⟩
        · have e1 : y 41 = .slice (some ⟨b, off, none⟩) n c := (hp.out 1 (by decide)).2 (by decide)
          have e2 : y 48 = .int .i64 (i11 : Int) := (hp.out 8 (by decide)).2 (by decide)
          have hil := HI11.out
          intro K Q hK
          clear hcl hL
          have v1 := (eval_frame 65 y [] (t := 41) (by decide)).trans e1
          have v2 := (eval_frame 65 y [] (t := 48) (by decide)).trans e2
          obtain ⟨A, hA⟩ : ∃ A, (⟨frameOf 65 y, []⟩ : Act) = A := ⟨_, rfl⟩
          rw [hA] at v1 v2 hK ⊢
          clear hA hy hp
          simp only [Act.eval] at v1 v2
          go_simp
          first | exact hK _ _ ⟨trivial, fun _ => rfl, HJ.out.pure (by decide) (by decide)⟩ | (rw [if_pos ⟨by omega, by omega⟩]; exact hK _ _ ⟨trivial, fun _ => rfl, HJ.out.pure (by decide) (by decide)⟩)
        · have e1 : y 49 = .pointer (some ⟨b, off + i11 * 6, none⟩) := (hp.out 9 (by decide)).2 (by decide)
          obtain ⟨c0, c1, c2, c3, c4, c5⟩ := HA11.out _ HP.out.bel
          intro K Q hK
          clear hcl hL
          have v1 := (eval_frame 65 y [] (t := 49) (by decide)).trans e1
          obtain ⟨A, hA⟩ : ∃ A, (⟨frameOf 65 y, []⟩ : Act) = A := ⟨_, rfl⟩
          rw [hA] at v1 hK ⊢
          clear hA hy hp
          simp only [Act.eval] at v1
          go_simp
          exact hK _ _ ⟨trivial, fun _ => rfl, HJ.out.pure (by decide) (by decide)⟩
        · have hN12 : L 12 = false := by
            cases h : L 12 with
            | false => rfl
            | true => have := (hcl 12 _ rfl h 11 (by decide)); rw [hL] at this; cases this
          intro K Q hK
          clear hcl hL
          obtain ⟨A, hA⟩ : ∃ A, (⟨frameOf 65 y, []⟩ : Act) = A := ⟨_, rfl⟩
          rw [hA] at hK ⊢
          clear hA hy hp
          go_simp
          exact hK _ _ ⟨trivial, fun _ => trivial, JA.step fun L' y' h1 h2 h3 h4 => ⟨HP.out.bel.alloc HP.out.bel.size _, fun _ => ⟨w9.heap.size, h4 (by decide), HP.out.bel.size, fun _ => Blk.new _ _ _, (fun h => by rw [h1 12 (by decide) (by decide), hN12] at h; cases h)⟩⟩⟩
        · have hL11 : L 11 = true := (hp.out 11 (by decide)).1
          obtain ⟨g, e1, hge, hz, -⟩ := HP.out.a hL11
          have e2 : y 50 = .agg #[.int .u64 p11.a, .int .i64 p11.prot, .bool p11.dirty, .string p11.file, .int .u64 p11.off, .string (strOfNums p11.b)] := (hp.out 10 (by decide)).2 (by decide)
          have hN12 : L 12 = false := hL
          obtain ⟨q0, q1, q2, q3, q4, q5⟩ := Rp.cs (hz hN12)
          obtain ⟨f0, f1, f2, f3, f4, f5⟩ := Rp.fs (hz hN12)
          have hzb := Lib.hid (hz hN12)
          have ey := e1
          intro K Q hK
          clear hcl hL
          have v1 := (eval_frame 65 y [] (t := 11) (by decide)).trans e1
          have v2 := (eval_frame 65 y [] (t := 50) (by decide)).trans e2
          obtain ⟨A, hA⟩ : ∃ A, (⟨frameOf 65 y, []⟩ : Act) = A := ⟨_, rfl⟩
          rw [hA] at v1 v2 hK ⊢
          clear hA hy hp
          simp only [Act.eval] at v1 v2
          go_simp
          exact hK undef _ ⟨trivial, fun h => absurd h (by decide), JA.step fun L' y' h1 h2 h3 h4 => PBx.stored HP.out.bel hzb.out hge ((h3 11 (by decide) (by decide)).trans ey) (h2 (by decide))⟩

    case steps6 =>
      refine ⟨?_, ?_, ?_, ?_, ?_, ?_, ?_, ?_, ?_, trivial⟩
      all_goals intro L y w9 hJ hL hy0 hp0 hcl hun
      all_goals have hy := Lib.hid hy0
      all_goals have hp := Lib.hid hp0
      all_goals have HJ := Lib.hid hJ
      all_goals have HP := Lib.hid hJ.out
      all_goals have hU := Lib.hid hun
      all_goals clear hy0 hp0 hun hJ
      · have e1 : y 4 = .pointer (some ⟨w.heap.size, 0, none⟩) := hy.out 4 (by decide)
        intro K Q hK
        clear hcl hL
        have v1 := (eval_frame 65 y [] (t := 4) (by decide)).trans e1
        obtain ⟨A, hA⟩ : ∃ A, (⟨frameOf 65 y, []⟩ : Act) = A := ⟨_, rfl⟩
        rw [hA] at v1 hK ⊢
        clear hA hy hp
        simp only [Act.eval] at v1
        go_simp
        exact hK _ _ ⟨trivial, fun _ => rfl, HJ.out.pure (by decide) (by decide)⟩
      · have e1 : y 33 = .pointer (some ⟨w.heap.size, 0, none⟩) := (hp.out 0 (by decide)).2 (by decide)
        have q0 : w9.cell? ⟨w.heap.size, 0, none⟩ = some (.slice (some ⟨b, off, none⟩) n c) := (fun (_ : Nat) => HM6.out _ HP.out.bel) 0
        intro K Q hK
        clear hcl hL
        have v1 := (eval_frame 65 y [] (t := 33) (by decide)).trans e1
        obtain ⟨A, hA⟩ : ∃ A, (⟨frameOf 65 y, []⟩ : Act) = A := ⟨_, rfl⟩
        rw [hA] at v1 hK ⊢
        clear hA hy hp
        simp only [Act.eval] at v1
        go_simp
        exact hK _ _ ⟨trivial, fun _ => rfl, HJ.out.pure (by decide) (by decide)⟩
      · have e1 : y 4 = .pointer (some ⟨w.heap.size, 0, none⟩) := hy.out 4 (by decide)
        have q0 : w9.cell? ⟨w.heap.size, 0, none⟩ = some (.slice (some ⟨b, off, none⟩) n c) := (fun (_ : Nat) => HM6.out _ HP.out.bel) 0
        intro K Q hK
        clear hcl hL
        have v1 := (eval_frame 65 y [] (t := 4) (by decide)).trans e1
        obtain ⟨A, hA⟩ : ∃ A, (⟨frameOf 65 y, []⟩ : Act) = A := ⟨_, rfl⟩
        rw [hA] at v1 hK ⊢
        clear hA hy hp
        simp only [Act.eval] at v1
        go_simp
        exact hK _ _ ⟨trivial, fun _ => rfl, HJ.out.pure (by decide) (by decide)⟩
      · have e1 : y 1 = .int .u64 (x : Int) := hy.out 1 (by decide)
        intro K Q hK
        clear hcl hL
        have v1 := (eval_frame 65 y [] (t := 1) (by decide)).trans e1
        obtain ⟨A, hA⟩ : ∃ A, (⟨frameOf 65 y, []⟩ : Act) = A := ⟨_, rfl⟩
        rw [hA] at v1 hK ⊢
        clear hA hy hp
        simp only [Act.eval] at v1
        go_simp
        exact hK _ _ ⟨trivial, fun _ => rfl, HJ.out.pure (by decide) (by decide)⟩
      · have e1 : y 35 = .agg #[.slice (some ⟨b, off, none⟩) n c] := (hp.out 2 (by decide)).2 (by decide)
        have e2 : y 36 = .int .u64 (x : Int) := (hp.out 3 (by decide)).2 (by decide)
        intro K Q hK
        clear hcl hL
        have v1 := (eval_frame 65 y [] (t := 35) (by decide)).trans e1
        have v2 := (eval_frame 65 y [] (t := 36) (by decide)).trans e2
        obtain ⟨A, hA⟩ : ∃ A, (⟨frameOf 65 y, []⟩ : Act) = A := ⟨_, rfl⟩
        rw [hA] at v1 v2 hK ⊢
        clear hA hy hp
        simp only [Act.eval] at v1 v2
        go_simp
        refine (HF6.out _ HP.out.bel).mono ?_
        rintro r w5 ⟨rfl, rfl⟩
        exact hK _ _ ⟨trivial, fun _ => rfl, JA.step fun L' y' h1 h2 h3 h4 => HP.out.alloc _ (h1 7 (by decide) (by decide)) (h1 8 (by decide) (by decide)) (h3 10 (by decide) (by decide))⟩
      · have e1 : y 34 = .slice (some ⟨b, off, none⟩) n c := (hp.out 1 (by decide)).2 (by decide)
        have e2 : y 37 = .int .i64 (i10 : Int) := (hp.out 4 (by decide)).2 (by decide)
        have hil := HI10.out
        intro K Q hK
        clear hcl hL
        have v1 := (eval_frame 65 y [] (t := 34) (by decide)).trans e1
        have v2 := (eval_frame 65 y [] (t := 37) (by decide)).trans e2
        obtain ⟨A, hA⟩ : ∃ A, (⟨frameOf 65 y, []⟩ : Act) = A := ⟨_, rfl⟩
        rw [hA] at v1 v2 hK ⊢
        clear hA hy hp
        simp only [Act.eval] at v1 v2
        go_simp
        first | exact hK _ _ ⟨trivial, fun _ => rfl, HJ.out.pure (by decide) (by decide)⟩ | (rw [if_pos ⟨by omega, by omega⟩]; exact hK _ _ ⟨trivial, fun _ => rfl, HJ.out.pure (by decide) (by decide)⟩)
      · have e1 : y 38 = .pointer (some ⟨b, off + i10 * 6, none⟩) := (hp.out 5 (by decide)).2 (by decide)
        obtain ⟨c0, c1, c2, c3, c4, c5⟩ := HA10.out _ HP.out.bel
        intro K Q hK
        clear hcl hL
        have v1 := (eval_frame 65 y [] (t := 38) (by decide)).trans e1
        obtain ⟨A, hA⟩ : ∃ A, (⟨frameOf 65 y, []⟩ : Act) = A := ⟨_, rfl⟩
        rw [hA] at v1 hK ⊢
        clear hA hy hp
        simp only [Act.eval] at v1
        go_simp
        exact hK _ _ ⟨trivial, fun _ => rfl, HJ.out.pure (by decide) (by decide)⟩
      · have hN8 : L 8 = false := by
          cases h : L 8 with
          | false => rfl
          | true => have := (hcl 8 _ rfl h 7 (by decide)); rw [hL] at this; cases this
        intro K Q hK
        clear hcl hL
        obtain ⟨A, hA⟩ : ∃ A, (⟨frameOf 65 y, []⟩ : Act) = A := ⟨_, rfl⟩
        rw [hA] at hK ⊢
        clear hA hy hp
        go_simp
        exact hK _ _ ⟨trivial, fun _ => trivial, JA.step fun L' y' h1 h2 h3 h4 => ⟨HP.out.bel.alloc HP.out.bel.size _, fun _ => ⟨w9.heap.size, h4 (by decide), HP.out.bel.size, fun _ => Blk.new _ _ _, (fun h => by rw [h1 8 (by decide) (by decide), hN8] at h; cases h)⟩⟩⟩
      · have hL7 : L 7 = true := (hp.out 7 (by decide)).1
        obtain ⟨g, e1, hge, hz, -⟩ := HP.out.a hL7
        have e2 : y 39 = .agg #[.int .u64 p10.a, .int .i64 p10.prot, .bool p10.dirty, .string p10.file, .int .u64 p10.off, .string (strOfNums p10.b)] := (hp.out 6 (by decide)).2 (by decide)
        have hN8 : L 8 = false := hL
        obtain ⟨q0, q1, q2, q3, q4, q5⟩ := Rp.cs (hz hN8)
        obtain ⟨f0, f1, f2, f3, f4, f5⟩ := Rp.fs (hz hN8)
        have hzb := Lib.hid (hz hN8)
        have ey := e1
        intro K Q hK
        clear hcl hL
        have v1 := (eval_frame 65 y [] (t := 10) (by decide)).trans e1
        have v2 := (eval_frame 65 y [] (t := 39) (by decide)).trans e2
        obtain ⟨A, hA⟩ : ∃ A, (⟨frameOf 65 y, []⟩ : Act) = A := ⟨_, rfl⟩
        rw [hA] at v1 v2 hK ⊢
        clear hA hy hp
        simp only [Act.eval] at v1 v2
        go_simp
        exact hK undef _ ⟨trivial, fun h => absurd h (by decide), JA.step fun L' y' h1 h2 h3 h4 => PBx.stored HP.out.bel hzb.out hge ((h3 10 (by decide) (by decide)).trans ey) (h2 (by decide))⟩

set_option maxHeartbeats 12800000 in
set_option maxRecDepth 100000 in
theorem fits4_8 {w : World} {B : Nat} {a : Option Addr} {n c : Nat} {M : List Pg} (h : RAt w B a n c M) (hB : B ≤ w.heap.size) (x : Nat) (x1 : x ≤ 18446744073709551615) :
    Calls Try.prog 43 #[mv a n c, .int .u64 x, .int .i64 8, .int .i64 4] w fun e w' => e = .returned (.int .i64 (fitsZ M x 8 4)) ∧ Below w.heap.size w w' := by
  have HH := Lib.hid h
  have HB := Lib.hid hB
  have hnn := fits_none (M := M) (x := x) (n := 8) (r := 4) (by decide)
  obtain ⟨Z, hZ⟩ : ∃ Z, fitsZ M x 8 4 = Z := ⟨_, rfl⟩
  rw [hZ] at hnn ⊢
  have HNN := Lib.hid hnn
  have HZZ := Lib.hid hZ
  have HB1 : Hid (Below w.heap.size w (w.alloc (.cells #[.slice a n c] 34))) := Lib.hid ((Below.refl _ _).alloc (Nat.le_refl _) _)
  have BX := Lib.hid (Blk.new w #[.slice a n c] 34)
  have HTH := Lib.hid (there_ok (h.below ((Below.refl _ _).alloc hB (.cells #[.slice a n c] 34))) (by simp; omega) x 8 x1 (by omega) (by omega))
  obtain ⟨T, hT⟩ : ∃ T, (spanP M x 8).isSome = T := ⟨_, rfl⟩
  rw [hT] at HTH
  have HT := Lib.hid hT
  have HX1 := Lib.hid x1
  have hc0 : (w.alloc (.cells #[.slice a n c] 34)).cell? ⟨w.heap.size, 0, none⟩ = some (.slice a n c) := BX.out.cell 0
  unfold mv at *
  clear h hB hZ hnn hT
  go_enter Try.func43, Try.ntmps43
  go_wp2_with fail
  refine HTH.out.mono ?_
  rintro r1 w1 ⟨rfl, hb1⟩
  rw [World.size_alloc] at hb1
  have HBA : Hid (Below w.heap.size w w1) := Lib.hid (HB1.out.trans (hb1.mono (by omega)))
  have HK0 : Hid (Blk w1 w.heap.size #[.slice a n c] 34) := Lib.hid (BX.out.below hb1 (by omega))
  have c1 : w1.cell? ⟨w.heap.size, 0, none⟩ = some (.slice a n c) := HK0.out.cell 0
  clear hb1 hc0 HTH
  cases T with
  | false =>
    have HZ0 := Lib.hid (HNN.out HT.out)
    go_wp2
    go_ret
    exact ⟨by rw [HZ0.out]; rfl, HBA.out⟩
  | true =>
    obtain ⟨b, off, i10, i11, p10, p11, rfl, HI10, HI11, HA10, HF6, HP10, HP11, HZ1, HM6, HN11, HTOP⟩ := fits_facts (r := 4) (N := 8) (Y := (x + 7)) (by decide) (HH.out.below (HBA.out.mono HB.out)) (Nat.le_trans HB.out HBA.out.size) HK0.out HX1.out (by decide) (by omega) HT.out
    have HWX : Hid (IntKind.u64.wrap ((x : Int) + 8) = (x : Int) + 8) := Lib.hid (by rw [IntKind.wrap_u64]; have := HTOP.out; omega)
    have HWY : Hid (IntKind.u64.wrap ((x : Int) + 8 - 1) = ((x + 7) : Nat)) := Lib.hid (by rw [IntKind.wrap_u64]; have := HTOP.out; omega)
    have hz1 := HZ1.out
    rw [show fitsZ M x (8 : Nat) 4 = fitsZ M x 8 4 from rfl, HZZ.out] at hz1
    have HZ2 := Lib.hid hz1
    obtain ⟨W6, hW6⟩ : ∃ W : World, W = w1 := ⟨_, rfl⟩
    subst hW6
    clear hz1 HZ1 HNN HZZ BX x1
    go_wp2_with fail
    refine wp_region_a (by kernel_rfl) 65 rfl [33, 34, 35, 36, 37, 38, 39, 10, 65] (fun _ _ => True) (factsOf [Is (.pointer (some ⟨w.heap.size, 0, none⟩)), Is (.slice (some ⟨b, off, none⟩) n c), Is (.agg #[.slice (some ⟨b, off, none⟩) n c]), Is (.int .u64 (x : Int)), Is (.int .i64 (i10 : Int)), Is (.pointer (some ⟨b, off + i10 * 6, none⟩)), Is (.agg #[.int .u64 p10.a, .int .i64 p10.prot, .bool p10.dirty, .string p10.file, .int .u64 p10.off, .string (strOfNums p10.b)]), AnyB, AnyB]) (JA [7, 8] [10] (PBx W6 #[.int .u64 p10.a, .int .i64 p10.prot, .bool p10.dirty, .string p10.file, .int .u64 p10.off, .string (strOfNums p10.b)] 7 8 10)) ?mono6 ?hj6 (by kernel_rfl) ?start6 ?steps6 ?fin6
    case mono6 => exact factsOf_monoR (monoR_cons (Is.monoR _ _) (monoR_cons (Is.monoR _ _) (monoR_cons (Is.monoR _ _) (monoR_cons (Is.monoR _ _) (monoR_cons (Is.monoR _ _) (monoR_cons (Is.monoR _ _) (monoR_cons (Is.monoR _ _) (monoR_cons (AnyB.monoR _) (monoR_cons (AnyB.monoR _) (monoR_nil _))))))))))
    case hj6 => exact JA.congr (by decide)
    case start6 =>
      refine JA.of fun L' y' h1 h2 => ?_
      exact ⟨Below.drew (Below.refl _ _), (fun h => by rw [h1 7 (by decide)] at h; cases h)⟩
    case fin6 =>
      intro y L w9 hJ hall hF hT
      have hP := hJ.out
      clear hJ hF
      obtain ⟨g10, eg10, hge, -, hblk⟩ := hP.a (hall 7 (by decide))
      have HK10 := Lib.hid (hblk (hall 8 (by decide)))
      have HBL10 := Lib.hid hP.bel
      have HGE10 := Lib.hid hge
      clear hP hall hblk hge
      rw [frFt]
      simp only [eg10, hT 0 (by decide), hT 1 (by decide), hT 2 (by decide), hT 3 (by decide), hT 4 (by decide), hT 5 (by decide), hT 6 (by decide), hT 7 (by decide), hT 8 (by decide), hT 9 (by decide), hT 11 (by decide), hT 12 (by decide), hT 13 (by decide), hT 14 (by decide), hT 15 (by decide), hT 16 (by decide), hT 17 (by decide), hT 18 (by decide), hT 19 (by decide), hT 20 (by decide), hT 21 (by decide), hT 22 (by decide), hT 23 (by decide), hT 24 (by decide), hT 25 (by decide), hT 26 (by decide), hT 27 (by decide), hT 28 (by decide), hT 29 (by decide), hT 30 (by decide), hT 31 (by decide), hT 32 (by decide), hT 40 (by decide), hT 41 (by decide), hT 42 (by decide), hT 43 (by decide), hT 44 (by decide), hT 45 (by decide), hT 46 (by decide), hT 47 (by decide), hT 48 (by decide), hT 49 (by decide), hT 50 (by decide), hT 51 (by decide), hT 52 (by decide), hT 53 (by decide), hT 54 (by decide), hT 55 (by decide), hT 56 (by decide), hT 57 (by decide), hT 58 (by decide), hT 59 (by decide), hT 60 (by decide), hT 61 (by decide), hT 62 (by decide), hT 63 (by decide), hT 64 (by decide), List.getD_cons_succ, List.getD_cons_zero]
      clear hT eg10
      obtain ⟨W7, hW7⟩ : ∃ W : World, W = w9 := ⟨_, rfl⟩
      subst hW7
      have hn7 := HN11.out W7 HBL10.out
      have HF7 := Lib.hid hn7.1
      have HA11 := Lib.hid hn7.2.1
      have HM7 := Lib.hid hn7.2.2
      clear hn7
      clear c1
      go_wp2_with fail
      refine wp_region_a (by kernel_rfl) 65 rfl [40, 41, 42, 43, 44, 45, 46, 47, 48, 49, 50, 11, 65] (fun _ _ => True) (factsOf [Is (.pointer (some ⟨w.heap.size, 0, none⟩)), Is (.slice (some ⟨b, off, none⟩) n c), Is (.agg #[.slice (some ⟨b, off, none⟩) n c]), Is (.int .u64 (x : Int)), Is (.int .i64 8), Is (.int .u64 8), Is (.int .u64 ((x : Int) + 8)), Is (.int .u64 ((x + 7 : Nat) : Int)), Is (.int .i64 (i11 : Int)), Is (.pointer (some ⟨b, off + i11 * 6, none⟩)), Is (.agg #[.int .u64 p11.a, .int .i64 p11.prot, .bool p11.dirty, .string p11.file, .int .u64 p11.off, .string (strOfNums p11.b)]), AnyB, AnyB]) (JA [11, 12] [11] (PBx W7 #[.int .u64 p11.a, .int .i64 p11.prot, .bool p11.dirty, .string p11.file, .int .u64 p11.off, .string (strOfNums p11.b)] 11 12 11)) ?mono7 ?hj7 (by kernel_rfl) ?start7 ?steps7 ?fin7
      case mono7 => exact factsOf_monoR (monoR_cons (Is.monoR _ _) (monoR_cons (Is.monoR _ _) (monoR_cons (Is.monoR _ _) (monoR_cons (Is.monoR _ _) (monoR_cons (Is.monoR _ _) (monoR_cons (Is.monoR _ _) (monoR_cons (Is.monoR _ _) (monoR_cons (Is.monoR _ _) (monoR_cons (Is.monoR _ _) (monoR_cons (Is.monoR _ _) (monoR_cons (Is.monoR _ _) (monoR_cons (AnyB.monoR _) (monoR_cons (AnyB.monoR _) (monoR_nil _))))))))))))))
      case hj7 => exact JA.congr (by decide)
      case start7 =>
        refine JA.of fun L' y' h1 h2 => ?_
        exact ⟨Below.drew (Below.refl _ _), (fun h => by rw [h1 11 (by decide)] at h; cases h)⟩
      case fin7 =>
        intro y L w9 hJ hall hF hT
        have hP := hJ.out
        clear hJ hF
        obtain ⟨g11, eg11, hge, -, hblk⟩ := hP.a (hall 11 (by decide))
        have HK11 := Lib.hid (hblk (hall 12 (by decide)))
        have HBL11 := Lib.hid hP.bel
        have HGE11 := Lib.hid hge
        clear hP hall hblk hge
        rw [frFt]
        simp only [eg11, hT 0 (by decide), hT 1 (by decide), hT 2 (by decide), hT 3 (by decide), hT 4 (by decide), hT 5 (by decide), hT 6 (by decide), hT 7 (by decide), hT 8 (by decide), hT 9 (by decide), hT 10 (by decide), hT 12 (by decide), hT 13 (by decide), hT 14 (by decide), hT 15 (by decide), hT 16 (by decide), hT 17 (by decide), hT 18 (by decide), hT 19 (by decide), hT 20 (by decide), hT 21 (by decide), hT 22 (by decide), hT 23 (by decide), hT 24 (by decide), hT 25 (by decide), hT 26 (by decide), hT 27 (by decide), hT 28 (by decide), hT 29 (by decide), hT 30 (by decide), hT 31 (by decide), hT 32 (by decide), hT 33 (by decide), hT 34 (by decide), hT 35 (by decide), hT 36 (by decide), hT 37 (by decide), hT 38 (by decide), hT 39 (by decide), hT 51 (by decide), hT 52 (by decide), hT 53 (by decide), hT 54 (by decide), hT 55 (by decide), hT 56 (by decide), hT 57 (by decide), hT 58 (by decide), hT 59 (by decide), hT 60 (by decide), hT 61 (by decide), hT 62 (by decide), hT 63 (by decide), hT 64 (by decide), List.getD_cons_succ, List.getD_cons_zero]
        clear hT eg11
        obtain ⟨W8, hW8⟩ : ∃ W : World, W = w9 := ⟨_, rfl⟩
        subst hW8
        have HK10' : Hid (Blk W8 g10 #[.int .u64 p10.a, .int .i64 p10.prot, .bool p10.dirty, .string p10.file, .int .u64 p10.off, .string (strOfNums p10.b)] 66) := Lib.hid (HK10.out.later HBL11.out)
        have c10 : W8.cell? ⟨g10, 1, none⟩ = some (.int .i64 p10.prot) := HK10'.out.cell 1
        have c11 : W8.cell? ⟨g11, 1, none⟩ = some (.int .i64 p11.prot) := HK11.out.cell 1
        have HEND : Hid (Below w.heap.size w W8) := Lib.hid (HBA.out.trans ((HBL10.out.trans (HBL11.out.mono HBL10.out.size)).mono HBA.out.size))
        have hpp10 := HP10.out
        have hpp11 := HP11.out
        by_cases hq10 : p10.prot / 4 % 2 = 0
        · have HQ : Hid (Z = 41) := Lib.hid (by rw [HZ2.out]; exact if_pos (by rw [Bool.or_eq_true, beq_iff_eq, beq_iff_eq]; exact Or.inl hq10))
          go_wp2
          go_ret
          exact ⟨by rw [HQ.out]; rfl, HEND.out⟩
        · go_wp2
          all_goals go_ret
          all_goals refine ⟨?_, HEND.out⟩
          all_goals rw [HZ2.out]
          all_goals (split <;> rename_i hx hsp <;> first | rfl | (exfalso; simp at hx hsp; omega))
      case steps7 =>
        refine ⟨?_, ?_, ?_, ?_, ?_, ?_, ?_, ?_, ?_, ?_, ?_, ?_, ?_, trivial⟩
        all_goals intro L y w9 hJ hL hy0 hp0 hcl hun
        all_goals have hy := Lib.hid hy0
        all_goals have hp := Lib.hid hp0
        all_goals have HJ := Lib.hid hJ
        all_goals have HP := Lib.hid hJ.out
        all_goals have hU := Lib.hid hun
        all_goals clear hy0 hp0 hun hJ
        · have e1 : y 4 = .pointer (some ⟨w.heap.size, 0, none⟩) := hy.out 4 (by decide)
          intro K Q hK
          clear hcl hL
          have v1 := (eval_frame 65 y [] (t := 4) (by decide)).trans e1
          obtain ⟨A, hA⟩ : ∃ A, (⟨frameOf 65 y, []⟩ : Act) = A := ⟨_, rfl⟩
          rw [hA] at v1 hK ⊢
          clear hA hy hp
          simp only [Act.eval] at v1
          go_simp
          exact hK _ _ ⟨trivial, fun _ => rfl, HJ.out.pure (by decide) (by decide)⟩
        · have e1 : y 40 = .pointer (some ⟨w.heap.size, 0, none⟩) := (hp.out 0 (by decide)).2 (by decide)
          have q0 : w9.cell? ⟨w.heap.size, 0, none⟩ = some (.slice (some ⟨b, off, none⟩) n c) := (fun (_ : Nat) => HM7.out _ HP.out.bel) 0
          intro K Q hK
          clear hcl hL
          have v1 := (eval_frame 65 y [] (t := 40) (by decide)).trans e1
          obtain ⟨A, hA⟩ : ∃ A, (⟨frameOf 65 y, []⟩ : Act) = A := ⟨_, rfl⟩
          rw [hA] at v1 hK ⊢
          clear hA hy hp
          simp only [Act.eval] at v1
          go_simp
          exact hK _ _ ⟨trivial, fun _ => rfl, HJ.out.pure (by decide) (by decide)⟩
        · have e1 : y 4 = .pointer (some ⟨w.heap.size, 0, none⟩) := hy.out 4 (by decide)
          have q0 : w9.cell? ⟨w.heap.size, 0, none⟩ = some (.slice (some ⟨b, off, none⟩) n c) := (fun (_ : Nat) => HM7.out _ HP.out.bel) 0
          intro K Q hK
          clear hcl hL
          have v1 := (eval_frame 65 y [] (t := 4) (by decide)).trans e1
          obtain ⟨A, hA⟩ : ∃ A, (⟨frameOf 65 y, []⟩ : Act) = A := ⟨_, rfl⟩
          rw [hA] at v1 hK ⊢
          clear hA hy hp
          simp only [Act.eval] at v1
          go_simp
          exact hK _ _ ⟨trivial, fun _ => rfl, HJ.out.pure (by decide) (by decide)⟩
        · have e1 : y 1 = .int .u64 (x : Int) := hy.out 1 (by decide)
          intro K Q hK
          clear hcl hL
          have v1 := (eval_frame 65 y [] (t := 1) (by decide)).trans e1
          obtain ⟨A, hA⟩ : ∃ A, (⟨frameOf 65 y, []⟩ : Act) = A := ⟨_, rfl⟩
          rw [hA] at v1 hK ⊢
          clear hA hy hp
          simp only [Act.eval] at v1
          go_simp
          exact hK _ _ ⟨trivial, fun _ => rfl, HJ.out.pure (by decide) (by decide)⟩
        · have e1 : y 2 = .int .i64 8 := hy.out 2 (by decide)
          intro K Q hK
          clear hcl hL
          have v1 := (eval_frame 65 y [] (t := 2) (by decide)).trans e1
          obtain ⟨A, hA⟩ : ∃ A, (⟨frameOf 65 y, []⟩ : Act) = A := ⟨_, rfl⟩
          rw [hA] at v1 hK ⊢
          clear hA hy hp
          simp only [Act.eval] at v1
          go_simp
          exact hK _ _ ⟨trivial, fun _ => rfl, HJ.out.pure (by decide) (by decide)⟩
        · have e1 : y 44 = .int .i64 8 := (hp.out 4 (by decide)).2 (by decide)
          intro K Q hK
          clear hcl hL
          have v1 := (eval_frame 65 y [] (t := 44) (by decide)).trans e1
          obtain ⟨A, hA⟩ : ∃ A, (⟨frameOf 65 y, []⟩ : Act) = A := ⟨_, rfl⟩
          rw [hA] at v1 hK ⊢
          clear hA hy hp
          simp only [Act.eval] at v1
          go_simp
          exact hK _ _ ⟨trivial, fun _ => rfl, HJ.out.pure (by decide) (by decide)⟩
        · have e1 : y 43 = .int .u64 (x : Int) := (hp.out 3 (by decide)).2 (by decide)
          have e2 : y 45 = .int .u64 8 := (hp.out 5 (by decide)).2 (by decide)
          have hwx := HWX.out
          intro K Q hK
          clear hcl hL
          have v1 := (eval_frame 65 y [] (t := 43) (by decide)).trans e1
          have v2 := (eval_frame 65 y [] (t := 45) (by decide)).trans e2
          obtain ⟨A, hA⟩ : ∃ A, (⟨frameOf 65 y, []⟩ : Act) = A := ⟨_, rfl⟩
          rw [hA] at v1 v2 hK ⊢
          clear hA hy hp
          simp only [Act.eval] at v1 v2
          go_simp
          first | exact hK _ _ ⟨trivial, fun _ => rfl, HJ.out.pure (by decide) (by decide)⟩ | (rw [hwx]; exact hK _ _ ⟨trivial, fun _ => rfl, HJ.out.pure (by decide) (by decide)⟩)
        · have e1 : y 46 = .int .u64 ((x : Int) + 8) := (hp.out 6 (by decide)).2 (by decide)
          have hwy := HWY.out
          intro K Q hK
          clear hcl hL
          have v1 := (eval_frame 65 y [] (t := 46) (by decide)).trans e1
          obtain ⟨A, hA⟩ : ∃ A, (⟨frameOf 65 y, []⟩ : Act) = A := ⟨_, rfl⟩
          rw [hA] at v1 hK ⊢
          clear hA hy hp
          simp only [Act.eval] at v1
          go_simp
          first | exact hK _ _ ⟨trivial, fun _ => rfl, HJ.out.pure (by decide) (by decide)⟩ | (rw [hwy]; exact hK _ _ ⟨trivial, fun _ => rfl, HJ.out.pure (by decide) (by decide)⟩)
        · have e1 : y 42 = .agg #[.slice (some ⟨b, off, none⟩) n c] := (hp.out 2 (by decide)).2 (by decide)
          have e2 : y 47 = .int .u64 ((x + 7 : Nat) : Int) := (hp.out 7 (by decide)).2 (by decide)
          intro K Q hK
          clear hcl hL
          have v1 := (eval_frame 65 y [] (t := 42) (by decide)).trans e1
          have v2 := (eval_frame 65 y [] (t := 47) (by decide)).trans e2
          obtain ⟨A, hA⟩ : ∃ A, (⟨frameOf 65 y, []⟩ : Act) = A := ⟨_, rfl⟩
          rw [hA] at v1 v2 hK ⊢
          clear hA hy hp
          simp only [Act.eval] at v1 v2
          go_simp
          refine (HF7.out _ HP.out.bel).mono ?_
          rintro r w5 ⟨rfl, rfl⟩
          exact hK _ _ ⟨trivial, fun _ => rfl, JA.step fun L' y' h1 h2 h3 h4 => HP.out.alloc _ (h1 11 (by decide) (by decide)) (h1 12 (by decide) (by decide)) (h3 11 (by decide) (by decide))⟩
        · have e1 : y 41 = .slice (some ⟨b, off, none⟩) n c := (hp.out 1 (by decide)).2 (by decide)
          have e2 : y 48 = .int .i64 (i11 : Int) := (hp.out 8 (by decide)).2 (by decide)
          have hil := HI11.out
          intro K Q hK
          clear hcl hL
          have v1 := (eval_frame 65 y [] (t := 41) (by decide)).trans e1
          have v2 := (eval_frame 65 y [] (t := 48) (by decide)).trans e2
          obtain ⟨A, hA⟩ : ∃ A, (⟨frameOf 65 y, []⟩ : Act) = A := ⟨_, rfl⟩
          rw [hA] at v1 v2 hK ⊢
          clear hA hy hp
          simp only [Act.eval] at v1 v2
          go_simp
          first | exact hK _ _ ⟨trivial, fun _ => rfl, HJ.out.pure (by decide) (by decide)⟩ | (rw [if_pos ⟨by omega, by omega⟩]; exact hK _ _ ⟨trivial, fun _ => rfl, HJ.out.pure (by decide) (by decide)⟩)
        · have e1 : y 49 = .pointer (some ⟨b, off + i11 * 6, none⟩) := (hp.out 9 (by decide)).2 (by decide)
          obtain ⟨c0, c1, c2, c3, c4, c5⟩ := HA11.out _ HP.out.bel
          intro K Q hK
          clear hcl hL
          have v1 := (eval_frame 65 y [] (t := 49) (by decide)).trans e1
          obtain ⟨A, hA⟩ : ∃ A, (⟨frameOf 65 y, []⟩ : Act) = A := ⟨_, rfl⟩
          rw [hA] at v1 hK ⊢
          clear hA hy hp
          simp only [Act.eval] at v1
          go_simp
          exact hK _ _ ⟨trivial, fun _ => rfl, HJ.out.pure (by decide) (by decide)⟩
        · have hN12 : L 12 = false := by
            cases h : L 12 with
            | false => rfl
            | true => have := (hcl 12 _ rfl h 11 (by decide)); rw [hL] at this; cases this
          intro K Q hK
          clear hcl hL
          obtain ⟨A, hA⟩ : ∃ A, (⟨frameOf 65 y, []⟩ : Act) = A := ⟨_, rfl⟩
          rw [hA] at hK ⊢
          clear hA hy hp
          go_simp
          exact hK _ _ ⟨trivial, fun _ => trivial, JA.step fun L' y' h1 h2 h3 h4 => ⟨HP.out.bel.alloc HP.out.bel.size _, fun _ => ⟨w9.heap.size, h4 (by decide), HP.out.bel.size, fun _ => Blk.new _ _ _, (fun h => by rw [h1 12 (by decide) (by decide), hN12] at h; cases h)⟩⟩⟩
        · have hL11 : L 11 = true := (hp.out 11 (by decide)).1
          obtain ⟨g, e1, hge, hz, -⟩ := HP.out.a hL11
          have e2 : y 50 = .agg #[.int .u64 p11.a, .int .i64 p11.prot, .bool p11.dirty, .string p11.file, .int .u64 p11.off, .string (strOfNums p11.b)] := (hp.out 10 (by decide)).2 (by decide)
          have hN12 : L 12 = false := hL
          obtain ⟨q0, q1, q2, q3, q4, q5⟩ := Rp.cs (hz hN12)
          obtain ⟨f0, f1, f2, f3, f4, f5⟩ := Rp.fs (hz hN12)
          have hzb := Lib.hid (hz hN12)
          have ey := e1
          intro K Q hK
          clear hcl hL
          have v1 := (eval_frame 65 y [] (t := 11) (by decide)).trans e1
          have v2 := (eval_frame 65 y [] (t := 50) (by decide)).trans e2
          obtain ⟨A, hA⟩ : ∃ A, (⟨frameOf 65 y, []⟩ : Act) = A := ⟨_, rfl⟩
          rw [hA] at v1 v2 hK ⊢
          clear hA hy hp
          simp only [Act.eval] at v1 v2
          go_simp
          exact hK undef _ ⟨trivial, fun h => absurd h (by decide), JA.step fun L' y' h1 h2 h3 h4 => PBx.stored HP.out.bel hzb.out hge ((h3 11 (by decide) (by decide)).trans ey) (h2 (by decide))⟩

    case steps6 =>
      refine ⟨?_, ?_, ?_, ?_, ?_, ?_, ?_, ?_, ?_, trivial⟩
      all_goals intro L y w9 hJ hL hy0 hp0 hcl hun
      all_goals have hy := Lib.hid hy0
      all_goals have hp := Lib.hid hp0
      all_goals have HJ := Lib.hid hJ
      all_goals have HP := Lib.hid hJ.out
      all_goals have hU := Lib.hid hun
      all_goals clear hy0 hp0 hun hJ
      · have e1 : y 4 = .pointer (some ⟨w.heap.size, 0, none⟩) := hy.out 4 (by decide)
        intro K Q hK
        clear hcl hL
        have v1 := (eval_frame 65 y [] (t := 4) (by decide)).trans e1
        obtain ⟨A, hA⟩ : ∃ A, (⟨frameOf 65 y, []⟩ : Act) = A := ⟨_, rfl⟩
        rw [hA] at v1 hK ⊢
        clear hA hy hp
        simp only [Act.eval] at v1
        go_simp
        exact hK _ _ ⟨trivial, fun _ => rfl, HJ.out.pure (by decide) (by decide)⟩
      · have e1 : y 33 = .pointer (some ⟨w.heap.size, 0, none⟩) := (hp.out 0 (by decide)).2 (by decide)
        have q0 : w9.cell? ⟨w.heap.size, 0, none⟩ = some (.slice (some ⟨b, off, none⟩) n c) := (fun (_ : Nat) => HM6.out _ HP.out.bel) 0
        intro K Q hK
        clear hcl hL
        have v1 := (eval_frame 65 y [] (t := 33) (by decide)).trans e1
        obtain ⟨A, hA⟩ : ∃ A, (⟨frameOf 65 y, []⟩ : Act) = A := ⟨_, rfl⟩
        rw [hA] at v1 hK ⊢
        clear hA hy hp
        simp only [Act.eval] at v1
        go_simp
        exact hK _ _ ⟨trivial, fun _ => rfl, HJ.out.pure (by decide) (by decide)⟩
      · have e1 : y 4 = .pointer (some ⟨w.heap.size, 0, none⟩) := hy.out 4 (by decide)
        have q0 : w9.cell? ⟨w.heap.size, 0, none⟩ = some (.slice (some ⟨b, off, none⟩) n c) := (fun (_ : Nat) => HM6.out _ HP.out.bel) 0
        intro K Q hK
        clear hcl hL
        have v1 := (eval_frame 65 y [] (t := 4) (by decide)).trans e1
        obtain ⟨A, hA⟩ : ∃ A, (⟨frameOf 65 y, []⟩ : Act) = A := ⟨_, rfl⟩
        rw [hA] at v1 hK ⊢
        clear hA hy hp
        simp only [Act.eval] at v1
        go_simp
        exact hK _ _ ⟨trivial, fun _ => rfl, HJ.out.pure (by decide) (by decide)⟩
      · have e1 : y 1 = .int .u64 (x : Int) := hy.out 1 (by decide)
        intro K Q hK
        clear hcl hL
        have v1 := (eval_frame 65 y [] (t := 1) (by decide)).trans e1
        obtain ⟨A, hA⟩ : ∃ A, (⟨frameOf 65 y, []⟩ : Act) = A := ⟨_, rfl⟩
        rw [hA] at v1 hK ⊢
        clear hA hy hp
        simp only [Act.eval] at v1
        go_simp
        exact hK _ _ ⟨trivial, fun _ => rfl, HJ.out.pure (by decide) (by decide)⟩
      · have e1 : y 35 = .agg #[.slice (some ⟨b, off, none⟩) n c] := (hp.out 2 (by decide)).2 (by decide)
        have e2 : y 36 = .int .u64 (x : Int) := (hp.out 3 (by decide)).2 (by decide)
        intro K Q hK
        clear hcl hL
        have v1 := (eval_frame 65 y [] (t := 35) (by decide)).trans e1
        have v2 := (eval_frame 65 y [] (t := 36) (by decide)).trans e2
        obtain ⟨A, hA⟩ : ∃ A, (⟨frameOf 65 y, []⟩ : Act) = A := ⟨_, rfl⟩
        rw [hA] at v1 v2 hK ⊢
        clear hA hy hp
        simp only [Act.eval] at v1 v2
        go_simp
        refine (HF6.out _ HP.out.bel).mono ?_
        rintro r w5 ⟨rfl, rfl⟩
        exact hK _ _ ⟨trivial, fun _ => rfl, JA.step fun L' y' h1 h2 h3 h4 => HP.out.alloc _ (h1 7 (by decide) (by decide)) (h1 8 (by decide) (by decide)) (h3 10 (by decide) (by decide))⟩
      · have e1 : y 34 = .slice (some ⟨b, off, none⟩) n c := (hp.out 1 (by decide)).2 (by decide)
        have e2 : y 37 = .int .i64 (i10 : Int) := (hp.out 4 (by decide)).2 (by decide)
        have hil := HI10.out
        intro K Q hK
        clear hcl hL
        have v1 := (eval_frame 65 y [] (t := 34) (by decide)).trans e1
        have v2 := (eval_frame 65 y [] (t := 37) (by decide)).trans e2
        obtain ⟨A, hA⟩ : ∃ A, (⟨frameOf 65 y, []⟩ : Act) = A := ⟨_, rfl⟩
        rw [hA] at v1 v2 hK ⊢
        clear hA hy hp
        simp only [Act.eval] at v1 v2
        go_simp
        first | exact hK _ _ ⟨trivial, fun _ => rfl, HJ.out.pure (by decide) (by decide)⟩ | (rw [if_pos ⟨by omega, by omega⟩]; exact hK _ _ ⟨trivial, fun _ => rfl, HJ.out.pure (by decide) (by decide)⟩)
      · have e1 : y 38 = .pointer (some ⟨b, off + i10 * 6, none⟩) := (hp.out 5 (by decide)).2 (by decide)
        obtain ⟨c0, c1, c2, c3, c4, c5⟩ := HA10.out _ HP.out.bel
        intro K Q hK
        clear hcl hL
        have v1 := (eval_frame 65 y [] (t := 38) (by decide)).trans e1
        obtain ⟨A, hA⟩ : ∃ A, (⟨frameOf 65 y, []⟩ : Act) = A := ⟨_, rfl⟩
        rw [hA] at v1 hK ⊢
        clear hA hy hp
        simp only [Act.eval] at v1
        go_simp
        exact hK _ _ ⟨trivial, fun _ => rfl, HJ.out.pure (by decide) (by decide)⟩
      · have hN8 : L 8 = false := by
          cases h : L 8 with
          | false => rfl
          | true => have := (hcl 8 _ rfl h 7 (by decide)); rw [hL] at this; cases this
        intro K Q hK
        clear hcl hL
        obtain ⟨A, hA⟩ : ∃ A, (⟨frameOf 65 y, []⟩ : Act) = A := ⟨_, rfl⟩
        rw [hA] at hK ⊢
        clear hA hy hp
        go_simp
        exact hK _ _ ⟨trivial, fun _ => trivial, JA.step fun L' y' h1 h2 h3 h4 => ⟨HP.out.bel.alloc HP.out.bel.size _, fun _ => ⟨w9.heap.size, h4 (by decide), HP.out.bel.size, fun _ => Blk.new _ _ _, (fun h => by rw [h1 8 (by decide) (by decide), hN8] at h; cases h)⟩⟩⟩
      · have hL7 : L 7 = true := (hp.out 7 (by decide)).1
        obtain ⟨g, e1, hge, hz, -⟩ := HP.out.a hL7
        have e2 : y 39 = .agg #[.int .u64 p10.a, .int .i64 p10.prot, .bool p10.dirty, .string p10.file, .int .u64 p10.off, .string (strOfNums p10.b)] := (hp.out 6 (by decide)).2 (by decide)
        have hN8 : L 8 = false := hL
        obtain ⟨q0, q1, q2, q3, q4, q5⟩ := Rp.cs (hz hN8)
        obtain ⟨f0, f1, f2, f3, f4, f5⟩ := Rp.fs (hz hN8)
        have hzb := Lib.hid (hz hN8)
        have ey := e1
        intro K Q hK
        clear hcl hL
        have v1 := (eval_frame 65 y [] (t := 10) (by decide)).trans e1
        have v2 := (eval_frame 65 y [] (t := 39) (by decide)).trans e2
        obtain ⟨A, hA⟩ : ∃ A, (⟨frameOf 65 y, []⟩ : Act) = A := ⟨_, rfl⟩
        rw [hA] at v1 v2 hK ⊢
        clear hA hy hp
        simp only [Act.eval] at v1 v2
        go_simp
        exact hK undef _ ⟨trivial, fun h => absurd h (by decide), JA.step fun L' y' h1 h2 h3 h4 => PBx.stored HP.out.bel hzb.out hge ((h3 10 (by decide) (by decide)).trans ey) (h2 (by decide))⟩

set_option maxHeartbeats 12800000 in
set_option maxRecDepth 100000 in
theorem fits2_1 {w : World} {B : Nat} {a : Option Addr} {n c : Nat} {M : List Pg} (h : RAt w B a n c M) (hB : B ≤ w.heap.size) (x : Nat) (x1 : x ≤ 18446744073709551615) :
    Calls Try.prog 43 #[mv a n c, .int .u64 x, .int .i64 1, .int .i64 2] w fun e w' => e = .returned (.int .i64 (fitsZ M x 1 2)) ∧ Below w.heap.size w w' := by
  have HH := Lib.hid h
  have HB := Lib.hid hB
  have hnn := fits_none (M := M) (x := x) (n := 1) (r := 2) (by decide)
  obtain ⟨Z, hZ⟩ : ∃ Z, fitsZ M x 1 2 = Z := ⟨_, rfl⟩
  rw [hZ] at hnn ⊢
  have HNN := Lib.hid hnn
  have HZZ := Lib.hid hZ
  have HB1 : Hid (Below w.heap.size w (w.alloc (.cells #[.slice a n c] 34))) := Lib.hid ((Below.refl _ _).alloc (Nat.le_refl _) _)
  have BX := Lib.hid (Blk.new w #[.slice a n c] 34)
  have HTH := Lib.hid (there_ok (h.below ((Below.refl _ _).alloc hB (.cells #[.slice a n c] 34))) (by simp; omega) x 1 x1 (by omega) (by omega))
  obtain ⟨T, hT⟩ : ∃ T, (spanP M x 1).isSome = T := ⟨_, rfl⟩
  rw [hT] at HTH
  have HT := Lib.hid hT
  have HX1 := Lib.hid x1
  have hc0 : (w.alloc (.cells #[.slice a n c] 34)).cell? ⟨w.heap.size, 0, none⟩ = some (.slice a n c) := BX.out.cell 0
  unfold mv at *
  clear h hB hZ hnn hT
  go_enter Try.func43, Try.ntmps43
  go_wp2_with fail
  refine HTH.out.mono ?_
  rintro r1 w1 ⟨rfl, hb1⟩
  rw [World.size_alloc] at hb1
  have HBA : Hid (Below w.heap.size w w1) := Lib.hid (HB1.out.trans (hb1.mono (by omega)))
  have HK0 : Hid (Blk w1 w.heap.size #[.slice a n c] 34) := Lib.hid (BX.out.below hb1 (by omega))
  have c1 : w1.cell? ⟨w.heap.size, 0, none⟩ = some (.slice a n c) := HK0.out.cell 0
  clear hb1 hc0 HTH
  cases T with
  | false =>
    have HZ0 := Lib.hid (HNN.out HT.out)
    go_wp2
    go_ret
    exact ⟨by rw [HZ0.out]; rfl, HBA.out⟩
  | true =>
    obtain ⟨b, off, i10, i11, p10, p11, rfl, HI10, HI11, HA10, HF6, HP10, HP11, HZ1, HM6, HN11, HTOP⟩ := fits_facts (r := 2) (N := 1) (Y := x) (by decide) (HH.out.below (HBA.out.mono HB.out)) (Nat.le_trans HB.out HBA.out.size) HK0.out HX1.out (by decide) (by omega) HT.out
    have HWX : Hid (IntKind.u64.wrap ((x : Int) + 1) = (x : Int) + 1) := Lib.hid (by rw [IntKind.wrap_u64]; have := HTOP.out; omega)
    have HWY : Hid (IntKind.u64.wrap ((x : Int)) = (x : Nat)) := Lib.hid (by rw [IntKind.wrap_u64]; have := HTOP.out; omega)
    have hz1 := HZ1.out
    rw [show fitsZ M x (1 : Nat) 2 = fitsZ M x 1 2 from rfl, HZZ.out] at hz1
    have HZ2 := Lib.hid hz1
    obtain ⟨W6, hW6⟩ : ∃ W : World, W = w1 := ⟨_, rfl⟩
    subst hW6
    clear hz1 HZ1 HNN HZZ BX x1
    go_wp2_with fail
    refine wp_region_a (by kernel_rfl) 65 rfl [33, 34, 35, 36, 37, 38, 39, 10, 65] (fun _ _ => True) (factsOf [Is (.pointer (some ⟨w.heap.size, 0, none⟩)), Is (.slice (some ⟨b, off, none⟩) n c), Is (.agg #[.slice (some ⟨b, off, none⟩) n c]), Is (.int .u64 (x : Int)), Is (.int .i64 (i10 : Int)), Is (.pointer (some ⟨b, off + i10 * 6, none⟩)), Is (.agg #[.int .u64 p10.a, .int .i64 p10.prot, .bool p10.dirty, .string p10.file, .int .u64 p10.off, .string (strOfNums p10.b)]), AnyB, AnyB]) (JA [7, 8] [10] (PBx W6 #[.int .u64 p10.a, .int .i64 p10.prot, .bool p10.dirty, .string p10.file, .int .u64 p10.off, .string (strOfNums p10.b)] 7 8 10)) ?mono6 ?hj6 (by kernel_rfl) ?start6 ?steps6 ?fin6
    case mono6 => exact factsOf_monoR (monoR_cons (Is.monoR _ _) (monoR_cons (Is.monoR _ _) (monoR_cons (Is.monoR _ _) (monoR_cons (Is.monoR _ _) (monoR_cons (Is.monoR _ _) (monoR_cons (Is.monoR _ _) (monoR_cons (Is.monoR _ _) (monoR_cons (AnyB.monoR _) (monoR_cons (AnyB.monoR _) (monoR_nil _))))))))))
    case hj6 => exact JA.congr (by decide)
    case start6 =>
      refine JA.of fun L' y' h1 h2 => ?_
      exact ⟨Below.drew (Below.refl _ _), (fun h => by rw [h1 7 (by decide)] at h; cases h)⟩
    case fin6 =>
      intro y L w9 hJ hall hF hT
      have hP := hJ.out
      clear hJ hF
      obtain ⟨g10, eg10, hge, -, hblk⟩ := hP.a (hall 7 (by decide))
      have HK10 := Lib.hid (hblk (hall 8 (by decide)))
      have HBL10 := Lib.hid hP.bel
      have HGE10 := Lib.hid hge
      clear hP hall hblk hge
      rw [frFt]
      simp only [eg10, hT 0 (by decide), hT 1 (by decide), hT 2 (by decide), hT 3 (by decide), hT 4 (by decide), hT 5 (by decide), hT 6 (by decide), hT 7 (by decide), hT 8 (by decide), hT 9 (by decide), hT 11 (by decide), hT 12 (by decide), hT 13 (by decide), hT 14 (by decide), hT 15 (by decide), hT 16 (by decide), hT 17 (by decide), hT 18 (by decide), hT 19 (by decide), hT 20 (by decide), hT 21 (by decide), hT 22 (by decide), hT 23 (by decide), hT 24 (by decide), hT 25 (by decide), hT 26 (by decide), hT 27 (by decide), hT 28 (by decide), hT 29 (by decide), hT 30 (by decide), hT 31 (by decide), hT 32 (by decide), hT 40 (by decide), hT 41 (by decide), hT 42 (by decide), hT 43 (by decide), hT 44 (by decide), hT 45 (by decide), hT 46 (by decide), hT 47 (by decide), hT 48 (by decide), hT 49 (by decide), hT 50 (by decide), hT 51 (by decide), hT 52 (by decide), hT 53 (by decide), hT 54 (by decide), hT 55 (by decide), hT 56 (by decide), hT 57 (by decide), hT 58 (by decide), hT 59 (by decide), hT 60 (by decide), hT 61 (by decide), hT 62 (by decide), hT 63 (by decide), hT 64 (by decide), List.getD_cons_succ, List.getD_cons_zero]
      clear hT eg10
      obtain ⟨W7, hW7⟩ : ∃ W : World, W = w9 := ⟨_, rfl⟩
      subst hW7
      have hn7 := HN11.out W7 HBL10.out
      have HF7 := Lib.hid hn7.1
      have HA11 := Lib.hid hn7.2.1
      have HM7 := Lib.hid hn7.2.2
      clear hn7
      clear c1
      go_wp2_with fail
      refine wp_region_a (by kernel_rfl) 65 rfl [40, 41, 42, 43, 44, 45, 46, 47, 48, 49, 50, 11, 65] (fun _ _ => True) (factsOf [Is (.pointer (some ⟨w.heap.size, 0, none⟩)), Is (.slice (some ⟨b, off, none⟩) n c), Is (.agg #[.slice (some ⟨b, off, none⟩) n c]), Is (.int .u64 (x : Int)), Is (.int .i64 1), Is (.int .u64 1), Is (.int .u64 ((x : Int) + 1)), Is (.int .u64 (x : Int)), Is (.int .i64 (i11 : Int)), Is (.pointer (some ⟨b, off + i11 * 6, none⟩)), Is (.agg #[.int .u64 p11.a, .int .i64 p11.prot, .bool p11.dirty, .string p11.file, .int .u64 p11.off, .string (strOfNums p11.b)]), AnyB, AnyB]) (JA [11, 12] [11] (PBx W7 #[.int .u64 p11.a, .int .i64 p11.prot, .bool p11.dirty, .string p11.file, .int .u64 p11.off, .string (strOfNums p11.b)] 11 12 11)) ?mono7 ?hj7 (by kernel_rfl) ?start7 ?steps7 ?fin7
      case mono7 => exact factsOf_monoR (monoR_cons (Is.monoR _ _) (monoR_cons (Is.monoR _ _) (monoR_cons (Is.monoR _ _) (monoR_cons (Is.monoR _ _) (monoR_cons (Is.monoR _ _) (monoR_cons (Is.monoR _ _) (monoR_cons (Is.monoR _ _) (monoR_cons (Is.monoR _ _) (monoR_cons (Is.monoR _ _) (monoR_cons (Is.monoR _ _) (monoR_cons (Is.monoR _ _) (monoR_cons (AnyB.monoR _) (monoR_cons (AnyB.monoR _) (monoR_nil _))))))))))))))
      case hj7 => exact JA.congr (by decide)
      case start7 =>
        refine JA.of fun L' y' h1 h2 => ?_
        exact ⟨Below.drew (Below.refl _ _), (fun h => by rw [h1 11 (by decide)] at h; cases h)⟩
      case fin7 =>
        intro y L w9 hJ hall hF hT
        have hP := hJ.out
        clear hJ hF
        obtain ⟨g11, eg11, hge, -, hblk⟩ := hP.a (hall 11 (by decide))
        have HK11 := Lib.hid (hblk (hall 12 (by decide)))
        have HBL11 := Lib.hid hP.bel
        have HGE11 := Lib.hid hge
        clear hP hall hblk hge
        rw [frFt]
        simp only [eg11, hT 0 (by decide), hT 1 (by decide), hT 2 (by decide), hT 3 (by decide), hT 4 (by decide), hT 5 (by decide), hT 6 (by decide), hT 7 (by decide), hT 8 (by decide), hT 9 (by decide), hT 10 (by decide), hT 12 (by decide), hT 13 (by decide), hT 14 (by decide), hT 15 (by decide), hT 16 (by decide), hT 17 (by decide), hT 18 (by decide), hT 19 (by decide), hT 20 (by decide), hT 21 (by decide), hT 22 (by decide), hT 23 (by decide), hT 24 (by decide), hT 25 (by decide), hT 26 (by decide), hT 27 (by decide), hT 28 (by decide), hT 29 (by decide), hT 30 (by decide), hT 31 (by decide), hT 32 (by decide), hT 33 (by decide), hT 34 (by decide), hT 35 (by decide), hT 36 (by decide), hT 37 (by decide), hT 38 (by decide), hT 39 (by decide), hT 51 (by decide), hT 52 (by decide), hT 53 (by decide), hT 54 (by decide), hT 55 (by decide), hT 56 (by decide), hT 57 (by decide), hT 58 (by decide), hT 59 (by decide), hT 60 (by decide), hT 61 (by decide), hT 62 (by decide), hT 63 (by decide), hT 64 (by decide), List.getD_cons_succ, List.getD_cons_zero]
        clear hT eg11
        obtain ⟨W8, hW8⟩ : ∃ W : World, W = w9 := ⟨_, rfl⟩
        subst hW8
        have HK10' : Hid (Blk W8 g10 #[.int .u64 p10.a, .int .i64 p10.prot, .bool p10.dirty, .string p10.file, .int .u64 p10.off, .string (strOfNums p10.b)] 66) := Lib.hid (HK10.out.later HBL11.out)
        have c10 : W8.cell? ⟨g10, 1, none⟩ = some (.int .i64 p10.prot) := HK10'.out.cell 1
        have c11 : W8.cell? ⟨g11, 1, none⟩ = some (.int .i64 p11.prot) := HK11.out.cell 1
        have HEND : Hid (Below w.heap.size w W8) := Lib.hid (HBA.out.trans ((HBL10.out.trans (HBL11.out.mono HBL10.out.size)).mono HBA.out.size))
        have hpp10 := HP10.out
        have hpp11 := HP11.out
        by_cases hq10 : p10.prot / 2 % 2 = 0
        · have HQ : Hid (Z = 41) := Lib.hid (by rw [HZ2.out]; exact if_pos (by rw [Bool.or_eq_true, beq_iff_eq, beq_iff_eq]; exact Or.inl hq10))
          go_wp2
          go_ret
          exact ⟨by rw [HQ.out]; rfl, HEND.out⟩
        · go_wp2
          all_goals go_ret
          all_goals refine ⟨?_, HEND.out⟩
          all_goals rw [HZ2.out]
          all_goals (split <;> rename_i hx hsp <;> first | rfl | (exfalso; simp at hx hsp; omega))
      case steps7 =>
        refine ⟨?_, ?_, ?_, ?_, ?_, ?_, ?_, ?_, ?_, ?_, ?_, ?_, ?_, trivial⟩
        all_goals intro L y w9 hJ hL hy0 hp0 hcl hun
        all_goals have hy := Lib.hid hy0
        all_goals have hp := Lib.hid hp0
        all_goals have HJ := Lib.hid hJ
        all_goals have HP := Lib.hid hJ.out
        all_goals have hU := Lib.hid hun
        all_goals clear hy0 hp0 hun hJ
        · have e1 : y 4 = .pointer (some ⟨w.heap.size, 0, none⟩) := hy.out 4 (by decide)
          intro K Q hK
          clear hcl hL
          have v1 := (eval_frame 65 y [] (t := 4) (by decide)).trans e1
          obtain ⟨A, hA⟩ : ∃ A, (⟨frameOf 65 y, []⟩ : Act) = A := ⟨_, rfl⟩
          rw [hA] at v1 hK ⊢
          clear hA hy hp
          simp only [Act.eval] at v1
          go_simp
          exact hK _ _ ⟨trivial, fun _ => rfl, HJ.out.pure (by decide) (by decide)⟩
        · have e1 : y 40 = .pointer (some ⟨w.heap.size, 0, none⟩) := (hp.out 0 (by decide)).2 (by decide)
          have q0 : w9.cell? ⟨w.heap.size, 0, none⟩ = some (.slice (some ⟨b, off, none⟩) n c) := (fun (_ : Nat) => HM7.out _ HP.out.bel) 0
          intro K Q hK
          clear hcl hL
          have v1 := (eval_frame 65 y [] (t := 40) (by decide)).trans e1
          obtain ⟨A, hA⟩ : ∃ A, (⟨frameOf 65 y, []⟩ : Act) = A := ⟨_, rfl⟩
          rw [hA] at v1 hK ⊢
          clear hA hy hp
          simp only [Act.eval] at v1
          go_simp
          exact hK _ _ ⟨trivial, fun _ => rfl, HJ.out.pure (by decide) (by decide)⟩
        · have e1 : y 4 = .pointer (some ⟨w.heap.size, 0, none⟩) := hy.out 4 (by decide)
          have q0 : w9.cell? ⟨w.heap.size, 0, none⟩ = some (.slice (some ⟨b, off, none⟩) n c) := (fun (_ : Nat) => HM7.out _ HP.out.bel) 0
          intro K Q hK
          clear hcl hL
          have v1 := (eval_frame 65 y [] (t := 4) (by decide)).trans e1
          obtain ⟨A, hA⟩ : ∃ A, (⟨frameOf 65 y, []⟩ : Act) = A := ⟨_, rfl⟩
          rw [hA] at v1 hK ⊢
          clear hA hy hp
          simp only [Act.eval] at v1
          go_simp
          exact hK _ _ ⟨trivial, fun _ => rfl, HJ.out.pure (by decide) (by decide)⟩
        · have e1 : y 1 = .int .u64 (x : Int) := hy.out 1 (by decide)
          intro K Q hK
          clear hcl hL
          have v1 := (eval_frame 65 y [] (t := 1) (by decide)).trans e1
          obtain ⟨A, hA⟩ : ∃ A, (⟨frameOf 65 y, []⟩ : Act) = A := ⟨_, rfl⟩
          rw [hA] at v1 hK ⊢
          clear hA hy hp
          simp only [Act.eval] at v1
          go_simp
          exact hK _ _ ⟨trivial, fun _ => rfl, HJ.out.pure (by decide) (by decide)⟩
        · have e1 : y 2 = .int .i64 1 := hy.out 2 (by decide)
          intro K Q hK
          clear hcl hL
          have v1 := (eval_frame 65 y [] (t := 2) (by decide)).trans e1
          obtain ⟨A, hA⟩ : ∃ A, (⟨frameOf 65 y, []⟩ : Act) = A := ⟨_, rfl⟩
          rw [hA] at v1 hK ⊢
          clear hA hy hp
          simp only [Act.eval] at v1
          go_simp
          exact hK _ _ ⟨trivial, fun _ => rfl, HJ.out.pure (by decide) (by decide)⟩
        · have e1 : y 44 = .int .i64 1 := (hp.out 4 (by decide)).2 (by decide)
          intro K Q hK
          clear hcl hL
          have v1 := (eval_frame 65 y [] (t := 44) (by decide)).trans e1
          obtain ⟨A, hA⟩ : ∃ A, (⟨frameOf 65 y, []⟩ : Act) = A := ⟨_, rfl⟩
          rw [hA] at v1 hK ⊢
          clear hA hy hp
          simp only [Act.eval] at v1
          go_simp
          exact hK _ _ ⟨trivial, fun _ => rfl, HJ.out.pure (by decide) (by decide)⟩
        · have e1 : y 43 = .int .u64 (x : Int) := (hp.out 3 (by decide)).2 (by decide)
          have e2 : y 45 = .int .u64 1 := (hp.out 5 (by decide)).2 (by decide)
          have hwx := HWX.out
          intro K Q hK
          clear hcl hL
          have v1 := (eval_frame 65 y [] (t := 43) (by decide)).trans e1
          have v2 := (eval_frame 65 y [] (t := 45) (by decide)).trans e2
          obtain ⟨A, hA⟩ : ∃ A, (⟨frameOf 65 y, []⟩ : Act) = A := ⟨_, rfl⟩
          rw [hA] at v1 v2 hK ⊢
          clear hA hy hp
          simp only [Act.eval] at v1 v2
          go_simp
          first | exact hK _ _ ⟨trivial, fun _ => rfl, HJ.out.pure (by decide) (by decide)⟩ | (rw [hwx]; exact hK _ _ ⟨trivial, fun _ => rfl, HJ.out.pure (by decide) (by decide)⟩)
        · have e1 : y 46 = .int .u64 ((x : Int) + 1) := (hp.out 6 (by decide)).2 (by decide)
          have hwy := HWY.out
          intro K Q hK
          clear hcl hL
          have v1 := (eval_frame 65 y [] (t := 46) (by decide)).trans e1
          obtain ⟨A, hA⟩ : ∃ A, (⟨frameOf 65 y, []⟩ : Act) = A := ⟨_, rfl⟩
          rw [hA] at v1 hK ⊢
          clear hA hy hp
          simp only [Act.eval] at v1
          go_simp
          first | exact hK _ _ ⟨trivial, fun _ => rfl, HJ.out.pure (by decide) (by decide)⟩ | (rw [hwy]; exact hK _ _ ⟨trivial, fun _ => rfl, HJ.out.pure (by decide) (by decide)⟩)
        · have e1 : y 42 = .agg #[.slice (some ⟨b, off, none⟩) n c] := (hp.out 2 (by decide)).2 (by decide)
          have e2 : y 47 = .int .u64 (x : Int) := (hp.out 7 (by decide)).2 (by decide)
          intro K Q hK
          clear hcl hL
          have v1 := (eval_frame 65 y [] (t := 42) (by decide)).trans e1
          have v2 := (eval_frame 65 y [] (t := 47) (by decide)).trans e2
          obtain ⟨A, hA⟩ : ∃ A, (⟨frameOf 65 y, []⟩ : Act) = A := ⟨_, rfl⟩
          rw [hA] at v1 v2 hK ⊢
          clear hA hy hp
          simp only [Act.eval] at v1 v2
          go_simp
          refine (HF7.out _ HP.out.bel).mono ?_
          rintro r w5 ⟨rfl, rfl⟩
          exact hK _ _ ⟨trivial, fun _ => rfl, JA.step fun L' y' h1 h2 h3 h4 => HP.out.alloc _ (h1 11 (by decide) (by decide)) (h1 12 (by decide) (by decide)) (h3 11 (by decide) (by decide))⟩
        · have e1 : y 41 = .slice (some ⟨b, off, none⟩) n c := (hp.out 1 (by decide)).2 (by decide)
          have e2 : y 48 = .int .i64 (i11 : Int) := (hp.out 8 (by decide)).2 (by decide)
          have hil := HI11.out
          intro K Q hK
          clear hcl hL
          have v1 := (eval_frame 65 y [] (t := 41) (by decide)).trans e1
          have v2 := (eval_frame 65 y [] (t := 48) (by decide)).trans e2
          obtain ⟨A, hA⟩ : ∃ A, (⟨frameOf 65 y, []⟩ : Act) = A := ⟨_, rfl⟩
          rw [hA] at v1 v2 hK ⊢
          clear hA hy hp
          simp only [Act.eval] at v1 v2
          go_simp
          first | exact hK _ _ ⟨trivial, fun _ => rfl, HJ.out.pure (by decide) (by decide)⟩ | (rw [if_pos ⟨by omega, by omega⟩]; exact hK _ _ ⟨trivial, fun _ => rfl, HJ.out.pure (by decide) (by decide)⟩)
        · have e1 : y 49 = .pointer (some ⟨b, off + i11 * 6, none⟩) := (hp.out 9 (by decide)).2 (by decide)
          obtain ⟨c0, c1, c2, c3, c4, c5⟩ := HA11.out _ HP.out.bel
          intro K Q hK
          clear hcl hL
          have v1 := (eval_frame 65 y [] (t := 49) (by decide)).trans e1
          obtain ⟨A, hA⟩ : ∃ A, (⟨frameOf 65 y, []⟩ : Act) = A := ⟨_, rfl⟩
          rw [hA] at v1 hK ⊢
          clear hA hy hp
          simp only [Act.eval] at v1
          go_simp
          exact hK _ _ ⟨trivial, fun _ => rfl, HJ.out.pure (by decide) (by decide)⟩
        · have hN12 : L 12 = false := by
            cases h : L 12 with
            | false => rfl
            | true => have := (hcl 12 _ rfl h 11 (by decide)); rw [hL] at this; cases this
          intro K Q hK
          clear hcl hL
          obtain ⟨A, hA⟩ : ∃ A, (⟨frameOf 65 y, []⟩ : Act) = A := ⟨_, rfl⟩
          rw [hA] at hK ⊢
          clear hA hy hp
          go_simp
          exact hK _ _ ⟨trivial, fun _ => trivial, JA.step fun L' y' h1 h2 h3 h4 => ⟨HP.out.bel.alloc HP.out.bel.size _, fun _ => ⟨w9.heap.size, h4 (by decide), HP.out.bel.size, fun _ => Blk.new _ _ _, (fun h => by rw [h1 12 (by decide) (by decide), hN12] at h; cases h)⟩⟩⟩
        · have hL11 : L 11 = true := (hp.out 11 (by decide)).1
          obtain ⟨g, e1, hge, hz, -⟩ := HP.out.a hL11
          have e2 : y 50 = .agg #[.int .u64 p11.a, .int .i64 p11.prot, .bool p11.dirty, .string p11.file, .int .u64 p11.off, .string (strOfNums p11.b)] := (hp.out 10 (by decide)).2 (by decide)
          have hN12 : L 12 = false := hL
          obtain ⟨q0, q1, q2, q3, q4, q5⟩ := Rp.cs (hz hN12)
          obtain ⟨f0, f1, f2, f3, f4, f5⟩ := Rp.fs (hz hN12)
          have hzb := Lib.hid (hz hN12)
          have ey := e1
          intro K Q hK
          clear hcl hL
          have v1 := (eval_frame 65 y [] (t := 11) (by decide)).trans e1
          have v2 := (eval_frame 65 y [] (t := 50) (by decide)).trans e2
          obtain ⟨A, hA⟩ : ∃ A, (⟨frameOf 65 y, []⟩ : Act) = A := ⟨_, rfl⟩
          rw [hA] at v1 v2 hK ⊢
          clear hA hy hp
          simp only [Act.eval] at v1 v2
          go_simp
          exact hK undef _ ⟨trivial, fun h => absurd h (by decide), JA.step fun L' y' h1 h2 h3 h4 => PBx.stored HP.out.bel hzb.out hge ((h3 11 (by decide) (by decide)).trans ey) (h2 (by decide))⟩

    case steps6 =>
      refine ⟨?_, ?_, ?_, ?_, ?_, ?_, ?_, ?_, ?_, trivial⟩
      all_goals intro L y w9 hJ hL hy0 hp0 hcl hun
      all_goals have hy := Lib.hid hy0
      all_goals have hp := Lib.hid hp0
      all_goals have HJ := Lib.hid hJ
      all_goals have HP := Lib.hid hJ.out
      all_goals have hU := Lib.hid hun
      all_goals clear hy0 hp0 hun hJ
      · have e1 : y 4 = .pointer (some ⟨w.heap.size, 0, none⟩) := hy.out 4 (by decide)
        intro K Q hK
        clear hcl hL
        have v1 := (eval_frame 65 y [] (t := 4) (by decide)).trans e1
        obtain ⟨A, hA⟩ : ∃ A, (⟨frameOf 65 y, []⟩ : Act) = A := ⟨_, rfl⟩
        rw [hA] at v1 hK ⊢
        clear hA hy hp
        simp only [Act.eval] at v1
        go_simp
        exact hK _ _ ⟨trivial, fun _ => rfl, HJ.out.pure (by decide) (by decide)⟩
      · have e1 : y 33 = .pointer (some ⟨w.heap.size, 0, none⟩) := (hp.out 0 (by decide)).2 (by decide)
        have q0 : w9.cell? ⟨w.heap.size, 0, none⟩ = some (.slice (some ⟨b, off, none⟩) n c) := (fun (_ : Nat) => HM6.out _ HP.out.bel) 0
        intro K Q hK
        clear hcl hL
        have v1 := (eval_frame 65 y [] (t := 33) (by decide)).trans e1
        obtain ⟨A, hA⟩ : ∃ A, (⟨frameOf 65 y, []⟩ : Act) = A := ⟨_, rfl⟩
        rw [hA] at v1 hK ⊢
        clear hA hy hp
        simp only [Act.eval] at v1
        go_simp
        exact hK _ _ ⟨trivial, fun _ => rfl, HJ.out.pure (by decide) (by decide)⟩
      · have e1 : y 4 = .pointer (some ⟨w.heap.size, 0, none⟩) := hy.out 4 (by decide)
        have q0 : w9.cell? ⟨w.heap.size, 0, none⟩ = some (.slice (some ⟨b, off, none⟩) n c) := (fun (_ : Nat) => HM6.out _ HP.out.bel) 0
        intro K Q hK
        clear hcl hL
        have v1 := (eval_frame 65 y [] (t := 4) (by decide)).trans e1
        obtain ⟨A, hA⟩ : ∃ A, (⟨frameOf 65 y, []⟩ : Act) = A := ⟨_, rfl⟩
        rw [hA] at v1 hK ⊢
        clear hA hy hp
        simp only [Act.eval] at v1
        go_simp
        exact hK _ _ ⟨trivial, fun _ => rfl, HJ.out.pure (by decide) (by decide)⟩
      · have e1 : y 1 = .int .u64 (x : Int) := hy.out 1 (by decide)
        intro K Q hK
        clear hcl hL
        have v1 := (eval_frame 65 y [] (t := 1) (by decide)).trans e1
        obtain ⟨A, hA⟩ : ∃ A, (⟨frameOf 65 y, []⟩ : Act) = A := ⟨_, rfl⟩
        rw [hA] at v1 hK ⊢
        clear hA hy hp
        simp only [Act.eval] at v1
        go_simp
        exact hK _ _ ⟨trivial, fun _ => rfl, HJ.out.pure (by decide) (by decide)⟩
      · have e1 : y 35 = .agg #[.slice (some ⟨b, off, none⟩) n c] := (hp.out 2 (by decide)).2 (by decide)
        have e2 : y 36 = .int .u64 (x : Int) := (hp.out 3 (by decide)).2 (by decide)
        intro K Q hK
        clear hcl hL
        have v1 := (eval_frame 65 y [] (t := 35) (by decide)).trans e1
        have v2 := (eval_frame 65 y [] (t := 36) (by decide)).trans e2
        obtain ⟨A, hA⟩ : ∃ A, (⟨frameOf 65 y, []⟩ : Act) = A := ⟨_, rfl⟩
        rw [hA] at v1 v2 hK ⊢
        clear hA hy hp
        simp only [Act.eval] at v1 v2
        go_simp
        refine (HF6.out _ HP.out.bel).mono ?_
        rintro r w5 ⟨rfl, rfl⟩
        exact hK _ _ ⟨trivial, fun _ => rfl, JA.step fun L' y' h1 h2 h3 h4 => HP.out.alloc _ (h1 7 (by decide) (by decide)) (h1 8 (by decide) (by decide)) (h3 10 (by decide) (by decide))⟩
      · have e1 : y 34 = .slice (some ⟨b, off, none⟩) n c := (hp.out 1 (by decide)).2 (by decide)
        have e2 : y 37 = .int .i64 (i10 : Int) := (hp.out 4 (by decide)).2 (by decide)
        have hil := HI10.out
        intro K Q hK
        clear hcl hL
        have v1 := (eval_frame 65 y [] (t := 34) (by decide)).trans e1
        have v2 := (eval_frame 65 y [] (t := 37) (by decide)).trans e2
        obtain ⟨A, hA⟩ : ∃ A, (⟨frameOf 65 y, []⟩ : Act) = A := ⟨_, rfl⟩
        rw [hA] at v1 v2 hK ⊢
        clear hA hy hp
        simp only [Act.eval] at v1 v2
        go_simp
        first | exact hK _ _ ⟨trivial, fun _ => rfl, HJ.out.pure (by decide) (by decide)⟩ | (rw [if_pos ⟨by omega, by omega⟩]; exact hK _ _ ⟨trivial, fun _ => rfl, HJ.out.pure (by decide) (by decide)⟩)
      · have e1 : y 38 = .pointer (some ⟨b, off + i10 * 6, none⟩) := (hp.out 5 (by decide)).2 (by decide)
        obtain ⟨c0, c1, c2, c3, c4, c5⟩ := HA10.out _ HP.out.bel
        intro K Q hK
        clear hcl hL
        have v1 := (eval_frame 65 y [] (t := 38) (by decide)).trans e1
        obtain ⟨A, hA⟩ : ∃ A, (⟨frameOf 65 y, []⟩ : Act) = A := ⟨_, rfl⟩
        rw [hA] at v1 hK ⊢
        clear hA hy hp
        simp only [Act.eval] at v1
        go_simp
        exact hK _ _ ⟨trivial, fun _ => rfl, HJ.out.pure (by decide) (by decide)⟩
      · have hN8 : L 8 = false := by
          cases h : L 8 with
          | false => rfl
          | true => have := (hcl 8 _ rfl h 7 (by decide)); rw [hL] at this; cases this
        intro K Q hK
        clear hcl hL
        obtain ⟨A, hA⟩ : ∃ A, (⟨frameOf 65 y, []⟩ : Act) = A := ⟨_, rfl⟩
        rw [hA] at hK ⊢
        clear hA hy hp
        go_simp
        exact hK _ _ ⟨trivial, fun _ => trivial, JA.step fun L' y' h1 h2 h3 h4 => ⟨HP.out.bel.alloc HP.out.bel.size _, fun _ => ⟨w9.heap.size, h4 (by decide), HP.out.bel.size, fun _ => Blk.new _ _ _, (fun h => by rw [h1 8 (by decide) (by decide), hN8] at h; cases h)⟩⟩⟩
      · have hL7 : L 7 = true := (hp.out 7 (by decide)).1
        obtain ⟨g, e1, hge, hz, -⟩ := HP.out.a hL7
        have e2 : y 39 = .agg #[.int .u64 p10.a, .int .i64 p10.prot, .bool p10.dirty, .string p10.file, .int .u64 p10.off, .string (strOfNums p10.b)] := (hp.out 6 (by decide)).2 (by decide)
        have hN8 : L 8 = false := hL
        obtain ⟨q0, q1, q2, q3, q4, q5⟩ := Rp.cs (hz hN8)
        obtain ⟨f0, f1, f2, f3, f4, f5⟩ := Rp.fs (hz hN8)
        have hzb := Lib.hid (hz hN8)
        have ey := e1
        intro K Q hK
        clear hcl hL
        have v1 := (eval_frame 65 y [] (t := 10) (by decide)).trans e1
        have v2 := (eval_frame 65 y [] (t := 39) (by decide)).trans e2
        obtain ⟨A, hA⟩ : ∃ A, (⟨frameOf 65 y, []⟩ : Act) = A := ⟨_, rfl⟩
        rw [hA] at v1 v2 hK ⊢
        clear hA hy hp
        simp only [Act.eval] at v1 v2
        go_simp
        exact hK undef _ ⟨trivial, fun h => absurd h (by decide), JA.step fun L' y' h1 h2 h3 h4 => PBx.stored HP.out.bel hzb.out hge ((h3 10 (by decide) (by decide)).trans ey) (h2 (by decide))⟩

set_option maxHeartbeats 12800000 in
set_option maxRecDepth 100000 in
theorem fits2_2 {w : World} {B : Nat} {a : Option Addr} {n c : Nat} {M : List Pg} (h : RAt w B a n c M) (hB : B ≤ w.heap.size) (x : Nat) (x1 : x ≤ 18446744073709551615) :
    Calls Try.prog 43 #[mv a n c, .int .u64 x, .int .i64 2, .int .i64 2] w fun e w' => e = .returned (.int .i64 (fitsZ M x 2 2)) ∧ Below w.heap.size w w' := by
  have HH := Lib.hid h
  have HB := Lib.hid hB
  have hnn := fits_none (M := M) (x := x) (n := 2) (r := 2) (by decide)
  obtain ⟨Z, hZ⟩ : ∃ Z, fitsZ M x 2 2 = Z := ⟨_, rfl⟩
  rw [hZ] at hnn ⊢
  have HNN := Lib.hid hnn
  have HZZ := Lib.hid hZ
  have HB1 : Hid (Below w.heap.size w (w.alloc (.cells #[.slice a n c] 34))) := Lib.hid ((Below.refl _ _).alloc (Nat.le_refl _) _)
  have BX := Lib.hid (Blk.new w #[.slice a n c] 34)
  have HTH := Lib.hid (there_ok (h.below ((Below.refl _ _).alloc hB (.cells #[.slice a n c] 34))) (by simp; omega) x 2 x1 (by omega) (by omega))
  obtain ⟨T, hT⟩ : ∃ T, (spanP M x 2).isSome = T := ⟨_, rfl⟩
  rw [hT] at HTH
  have HT := Lib.hid hT
  have HX1 := Lib.hid x1
  have hc0 : (w.alloc (.cells #[.slice a n c] 34)).cell? ⟨w.heap.size, 0, none⟩ = some (.slice a n c) := BX.out.cell 0
  unfold mv at *
  clear h hB hZ hnn hT
  go_enter Try.func43, Try.ntmps43
  go_wp2_with fail
  refine HTH.out.mono ?_
  rintro r1 w1 ⟨rfl, hb1⟩
  rw [World.size_alloc] at hb1
  have HBA : Hid (Below w.heap.size w w1) := Lib.hid (HB1.out.trans (hb1.mono (by omega)))
  have HK0 : Hid (Blk w1 w.heap.size #[.slice a n c] 34) := Lib.hid (BX.out.below hb1 (by omega))
  have c1 : w1.cell? ⟨w.heap.size, 0, none⟩ = some (.slice a n c) := HK0.out.cell 0
  clear hb1 hc0 HTH
  cases T with
  | false =>
    have HZ0 := Lib.hid (HNN.out HT.out)
    go_wp2
    go_ret
    exact ⟨by rw [HZ0.out]; rfl, HBA.out⟩
  | true =>
    obtain ⟨b, off, i10, i11, p10, p11, rfl, HI10, HI11, HA10, HF6, HP10, HP11, HZ1, HM6, HN11, HTOP⟩ := fits_facts (r := 2) (N := 2) (Y := (x + 1)) (by decide) (HH.out.below (HBA.out.mono HB.out)) (Nat.le_trans HB.out HBA.out.size) HK0.out HX1.out (by decide) (by omega) HT.out
    have HWX : Hid (IntKind.u64.wrap ((x : Int) + 2) = (x : Int) + 2) := Lib.hid (by rw [IntKind.wrap_u64]; have := HTOP.out; omega)
    have HWY : Hid (IntKind.u64.wrap ((x : Int) + 2 - 1) = ((x + 1) : Nat)) := Lib.hid (by rw [IntKind.wrap_u64]; have := HTOP.out; omega)
    have hz1 := HZ1.out
    rw [show fitsZ M x (2 : Nat) 2 = fitsZ M x 2 2 from rfl, HZZ.out] at hz1
    have HZ2 := Lib.hid hz1
    obtain ⟨W6, hW6⟩ : ∃ W : World, W = w1 := ⟨_, rfl⟩
    subst hW6
    clear hz1 HZ1 HNN HZZ BX x1
    go_wp2_with fail
    refine wp_region_a (by kernel_rfl) 65 rfl [33, 34, 35, 36, 37, 38, 39, 10, 65] (fun _ _ => True) (factsOf [Is (.pointer (some ⟨w.heap.size, 0, none⟩)), Is (.slice (some ⟨b, off, none⟩) n c), Is (.agg #[.slice (some ⟨b, off, none⟩) n c]), Is (.int .u64 (x : Int)), Is (.int .i64 (i10 : Int)), Is (.pointer (some ⟨b, off + i10 * 6, none⟩)), Is (.agg #[.int .u64 p10.a, .int .i64 p10.prot, .bool p10.dirty, .string p10.file, .int .u64 p10.off, .string (strOfNums p10.b)]), AnyB, AnyB]) (JA [7, 8] [10] (PBx W6 #[.int .u64 p10.a, .int .i64 p10.prot, .bool p10.dirty, .string p10.file, .int .u64 p10.off, .string (strOfNums p10.b)] 7 8 10)) ?mono6 ?hj6 (by kernel_rfl) ?start6 ?steps6 ?fin6
    case mono6 => exact factsOf_monoR (monoR_cons (Is.monoR _ _) (monoR_cons (Is.monoR _ _) (monoR_cons (Is.monoR _ _) (monoR_cons (Is.monoR _ _) (monoR_cons (Is.monoR _ _) (monoR_cons (Is.monoR _ _) (monoR_cons (Is.monoR _ _) (monoR_cons (AnyB.monoR _) (monoR_cons (AnyB.monoR _) (monoR_nil _))))))))))
    case hj6 => exact JA.congr (by decide)
    case start6 =>
      refine JA.of fun L' y' h1 h2 => ?_
      exact ⟨Below.drew (Below.refl _ _), (fun h => by rw [h1 7 (by decide)] at h; cases h)⟩
    case fin6 =>
      intro y L w9 hJ hall hF hT
      have hP := hJ.out
      clear hJ hF
      obtain ⟨g10, eg10, hge, -, hblk⟩ := hP.a (hall 7 (by decide))
      have HK10 := Lib.hid (hblk (hall 8 (by decide)))
      have HBL10 := Lib.hid hP.bel
      have HGE10 := Lib.hid hge
      clear hP hall hblk hge
      rw [frFt]
      simp only [eg10, hT 0 (by decide), hT 1 (by decide), hT 2 (by decide), hT 3 (by decide), hT 4 (by decide), hT 5 (by decide), hT 6 (by decide), hT 7 (by decide), hT 8 (by decide), hT 9 (by decide), hT 11 (by decide), hT 12 (by decide), hT 13 (by decide), hT 14 (by decide), hT 15 (by decide), hT 16 (by decide), hT 17 (by decide), hT 18 (by decide), hT 19 (by decide), hT 20 (by decide), hT 21 (by decide), hT 22 (by decide), hT 23 (by decide), hT 24 (by decide), hT 25 (by decide), hT 26 (by decide), hT 27 (by decide), hT 28 (by decide), hT 29 (by decide), hT 30 (by decide), hT 31 (by decide), hT 32 (by decide), hT 40 (by decide), hT 41 (by decide), hT 42 (by decide), hT 43 (by decide), hT 44 (by decide), hT 45 (by decide), hT 46 (by decide), hT 47 (by decide), hT 48 (by decide), hT 49 (by decide), hT 50 (by decide), hT 51 (by decide), hT 52 (by decide), hT 53 (by decide), hT 54 (by decide), hT 55 (by decide), hT 56 (by decide), hT 57 (by decide), hT 58 (by decide), hT 59 (by decide), hT 60 (by decide), hT 61 (by decide), hT 62 (by decide), hT 63 (by decide), hT 64 (by decide), List.getD_cons_succ, List.getD_cons_zero]
      clear hT eg10
      obtain ⟨W7, hW7⟩ : ∃ W : World, W = w9 := ⟨_, rfl⟩
      subst hW7
      have hn7 := HN11.out W7 HBL10.out
      have HF7 := Lib.hid hn7.1
      have HA11 := Lib.hid hn7.2.1
      have HM7 := Lib.hid hn7.2.2
      clear hn7
      clear c1
      go_wp2_with fail
      refine wp_region_a (by kernel_rfl) 65 rfl [40, 41, 42, 43, 44, 45, 46, 47, 48, 49, 50, 11, 65] (fun _ _ => True) (factsOf [Is (.pointer (some ⟨w.heap.size, 0, none⟩)), Is (.slice (some ⟨b, off, none⟩) n c), Is (.agg #[.slice (some ⟨b, off, none⟩) n c]), Is (.int .u64 (x : Int)), Is (.int .i64 2), Is (.int .u64 2), Is (.int .u64 ((x : Int) + 2)), Is (.int .u64 ((x + 1 : Nat) : Int)), Is (.int .i64 (i11 : Int)), Is (.pointer (some ⟨b, off + i11 * 6, none⟩)), Is (.agg #[.int .u64 p11.a, .int .i64 p11.prot, .bool p11.dirty, .string p11.file, .int .u64 p11.off, .string (strOfNums p11.b)]), AnyB, AnyB]) (JA [11, 12] [11] (PBx W7 #[.int .u64 p11.a, .int .i64 p11.prot, .bool p11.dirty, .string p11.file, .int .u64 p11.off, .string (strOfNums p11.b)] 11 12 11)) ?mono7 ?hj7 (by kernel_rfl) ?start7 ?steps7 ?fin7
      case mono7 => exact factsOf_monoR (monoR_cons (Is.monoR _ _) (monoR_cons (Is.monoR _ _) (monoR_cons (Is.monoR _ _) (monoR_cons (Is.monoR _ _) (monoR_cons (Is.monoR _ _) (monoR_cons (Is.monoR _ _) (monoR_cons (Is.monoR _ _) (monoR_cons (Is.monoR _ _) (monoR_cons (Is.monoR _ _) (monoR_cons (Is.monoR _ _) (monoR_cons (Is.monoR _ _) (monoR_cons (AnyB.monoR _) (monoR_cons (AnyB.monoR _) (monoR_nil _))))))))))))))
      case hj7 => exact JA.congr (by decide)
      case start7 =>
        refine JA.of fun L' y' h1 h2 => ?_
        exact ⟨Below.drew (Below.refl _ _), (fun h => by rw [h1 11 (by decide)] at h; cases h)⟩
      case fin7 =>
        intro y L w9 hJ hall hF hT
        have hP := hJ.out
        clear hJ hF
        obtain ⟨g11, eg11, hge, -, hblk⟩ := hP.a (hall 11 (by decide))
        have HK11 := Lib.hid (hblk (hall 12 (by decide)))
        have HBL11 := Lib.hid hP.bel
        have HGE11 := Lib.hid hge
        clear hP hall hblk hge
        rw [frFt]
        simp only [eg11, hT 0 (by decide), hT 1 (by decide), hT 2 (by decide), hT 3 (by decide), hT 4 (by decide), hT 5 (by decide), hT 6 (by decide), hT 7 (by decide), hT 8 (by decide), hT 9 (by decide), hT 10 (by decide), hT 12 (by decide), hT 13 (by decide), hT 14 (by decide), hT 15 (by decide), hT 16 (by decide), hT 17 (by decide), hT 18 (by decide), hT 19 (by decide), hT 20 (by decide), hT 21 (by decide), hT 22 (by decide), hT 23 (by decide), hT 24 (by decide), hT 25 (by decide), hT 26 (by decide), hT 27 (by decide), hT 28 (by decide), hT 29 (by decide), hT 30 (by decide), hT 31 (by decide), hT 32 (by decide), hT 33 (by decide), hT 34 (by decide), hT 35 (by decide), hT 36 (by decide), hT 37 (by decide), hT 38 (by decide), hT 39 (by decide), hT 51 (by decide), hT 52 (by decide), hT 53 (by decide), hT 54 (by decide), hT 55 (by decide), hT 56 (by decide), hT 57 (by decide), hT 58 (by decide), hT 59 (by decide), hT 60 (by decide), hT 61 (by decide), hT 62 (by decide), hT 63 (by decide), hT 64 (by decide), List.getD_cons_succ, List.getD_cons_zero]
        clear hT eg11
        obtain ⟨W8, hW8⟩ : ∃ W : World, W = w9 := ⟨_, rfl⟩
        subst hW8
        have HK10' : Hid (Blk W8 g10 #[.int .u64 p10.a, .int .i64 p10.prot, .bool p10.dirty, .string p10.file, .int .u64 p10.off, .string (strOfNums p10.b)] 66) := Lib.hid (HK10.out.later HBL11.out)
        have c10 : W8.cell? ⟨g10, 1, none⟩ = some (.int .i64 p10.prot) := HK10'.out.cell 1
        have c11 : W8.cell? ⟨g11, 1, none⟩ = some (.int .i64 p11.prot) := HK11.out.cell 1
        have HEND : Hid (Below w.heap.size w W8) := Lib.hid (HBA.out.trans ((HBL10.out.trans (HBL11.out.mono HBL10.out.size)).mono HBA.out.size))
        have hpp10 := HP10.out
        have hpp11 := HP11.out
        by_cases hq10 : p10.prot / 2 % 2 = 0
        · have HQ : Hid (Z = 41) := Lib.hid (by rw [HZ2.out]; exact if_pos (by rw [Bool.or_eq_true, beq_iff_eq, beq_iff_eq]; exact Or.inl hq10))
          go_wp2
          go_ret
          exact ⟨by rw [HQ.out]; rfl, HEND.out⟩
        · go_wp2
          all_goals go_ret
          all_goals refine ⟨?_, HEND.out⟩
          all_goals rw [HZ2.out]
          all_goals (split <;> rename_i hx hsp <;> first | rfl | (exfalso; simp at hx hsp; omega))
      case steps7 =>
        refine ⟨?_, ?_, ?_, ?_, ?_, ?_, ?_, ?_, ?_, ?_, ?_, ?_, ?_, trivial⟩
        all_goals intro L y w9 hJ hL hy0 hp0 hcl hun
        all_goals have hy := Lib.hid hy0
        all_goals have hp := Lib.hid hp0
        all_goals have HJ := Lib.hid hJ
        all_goals have HP := Lib.hid hJ.out
        all_goals have hU := Lib.hid hun
        all_goals clear hy0 hp0 hun hJ
        · have e1 : y 4 = .pointer (some ⟨w.heap.size, 0, none⟩) := hy.out 4 (by decide)
          intro K Q hK
          clear hcl hL
          have v1 := (eval_frame 65 y [] (t := 4) (by decide)).trans e1
          obtain ⟨A, hA⟩ : ∃ A, (⟨frameOf 65 y, []⟩ : Act) = A := ⟨_, rfl⟩
          rw [hA] at v1 hK ⊢
          clear hA hy hp
          simp only [Act.eval] at v1
          go_simp
          exact hK _ _ ⟨trivial, fun _ => rfl, HJ.out.pure (by decide) (by decide)⟩
        · have e1 : y 40 = .pointer (some ⟨w.heap.size, 0, none⟩) := (hp.out 0 (by decide)).2 (by decide)
          have q0 : w9.cell? ⟨w.heap.size, 0, none⟩ = some (.slice (some ⟨b, off, none⟩) n c) := (fun (_ : Nat) => HM7.out _ HP.out.bel) 0
          intro K Q hK
          clear hcl hL
          have v1 := (eval_frame 65 y [] (t := 40) (by decide)).trans e1
          obtain ⟨A, hA⟩ : ∃ A, (⟨frameOf 65 y, []⟩ : Act) = A := ⟨_, rfl⟩
          rw [hA] at v1 hK ⊢
          clear hA hy hp
          simp only [Act.eval] at v1
          go_simp
          exact hK _ _ ⟨trivial, fun _ => rfl, HJ.out.pure (by decide) (by decide)⟩
        · have e1 : y 4 = .pointer (some ⟨w.heap.size, 0, none⟩) := hy.out 4 (by decide)
          have q0 : w9.cell? ⟨w.heap.size, 0, none⟩ = some (.slice (some ⟨b, off, none⟩) n c) := (fun (_ : Nat) => HM7.out _ HP.out.bel) 0
          intro K Q hK
          clear hcl hL
          have v1 := (eval_frame 65 y [] (t := 4) (by decide)).trans e1
          obtain ⟨A, hA⟩ : ∃ A, (⟨frameOf 65 y, []⟩ : Act) = A := ⟨_, rfl⟩
          rw [hA] at v1 hK ⊢
          clear hA hy hp
          simp only [Act.eval] at v1
          go_simp
          exact hK _ _ ⟨trivial, fun _ => rfl, HJ.out.pure (by decide) (by decide)⟩
        · have e1 : y 1 = .int .u64 (x : Int) := hy.out 1 (by decide)
          intro K Q hK
          clear hcl hL
          have v1 := (eval_frame 65 y [] (t := 1) (by decide)).trans e1
          obtain ⟨A, hA⟩ : ∃ A, (⟨frameOf 65 y, []⟩ : Act) = A := ⟨_, rfl⟩
          rw [hA] at v1 hK ⊢
          clear hA hy hp
          simp only [Act.eval] at v1
          go_simp
          exact hK _ _ ⟨trivial, fun _ => rfl, HJ.out.pure (by decide) (by decide)⟩
        · have e1 : y 2 = .int .i64 2 := hy.out 2 (by decide)
          intro K Q hK
          clear hcl hL
          have v1 := (eval_frame 65 y [] (t := 2) (by decide)).trans e1
          obtain ⟨A, hA⟩ : ∃ A, (⟨frameOf 65 y, []⟩ : Act) = A := ⟨_, rfl⟩
          rw [hA] at v1 hK ⊢
          clear hA hy hp
          simp only [Act.eval] at v1
          go_simp
          exact hK _ _ ⟨trivial, fun _ => rfl, HJ.out.pure (by decide) (by decide)⟩
        · have e1 : y 44 = .int .i64 2 := (hp.out 4 (by decide)).2 (by decide)
          intro K Q hK
          clear hcl hL
          have v1 := (eval_frame 65 y [] (t := 44) (by decide)).trans e1
          obtain ⟨A, hA⟩ : ∃ A, (⟨frameOf 65 y, []⟩ : Act) = A := ⟨_, rfl⟩
          rw [hA] at v1 hK ⊢
          clear hA hy hp
          simp only [Act.eval] at v1
          go_simp
          exact hK _ _ ⟨trivial, fun _ => rfl, HJ.out.pure (by decide) (by decide)⟩
        · have e1 : y 43 = .int .u64 (x : Int) := (hp.out 3 (by decide)).2 (by decide)
          have e2 : y 45 = .int .u64 2 := (hp.out 5 (by decide)).2 (by decide)
          have hwx := HWX.out
          intro K Q hK
          clear hcl hL
          have v1 := (eval_frame 65 y [] (t := 43) (by decide)).trans e1
          have v2 := (eval_frame 65 y [] (t := 45) (by decide)).trans e2
          obtain ⟨A, hA⟩ : ∃ A, (⟨frameOf 65 y, []⟩ : Act) = A := ⟨_, rfl⟩
          rw [hA] at v1 v2 hK ⊢
          clear hA hy hp
          simp only [Act.eval] at v1 v2
          go_simp
          first | exact hK _ _ ⟨trivial, fun _ => rfl, HJ.out.pure (by decide) (by decide)⟩ | (rw [hwx]; exact hK _ _ ⟨trivial, fun _ => rfl, HJ.out.pure (by decide) (by decide)⟩)
        · have e1 : y 46 = .int .u64 ((x : Int) + 2) := (hp.out 6 (by decide)).2 (by decide)
          have hwy := HWY.out
          intro K Q hK
          clear hcl hL
          have v1 := (eval_frame 65 y [] (t := 46) (by decide)).trans e1
          obtain ⟨A, hA⟩ : ∃ A, (⟨frameOf 65 y, []⟩ : Act) = A := ⟨_, rfl⟩
          rw [hA] at v1 hK ⊢
          clear hA hy hp
          simp only [Act.eval] at v1
          go_simp
          first | exact hK _ _ ⟨trivial, fun _ => rfl, HJ.out.pure (by decide) (by decide)⟩ | (rw [hwy]; exact hK _ _ ⟨trivial, fun _ => rfl, HJ.out.pure (by decide) (by decide)⟩)
        · have e1 : y 42 = .agg #[.slice (some ⟨b, off, none⟩) n c] := (hp.out 2 (by decide)).2 (by decide)
          have e2 : y 47 = .int .u64 ((x + 1 : Nat) : Int) := (hp.out 7 (by decide)).2 (by decide)
          intro K Q hK
          clear hcl hL
          have v1 := (eval_frame 65 y [] (t := 42) (by decide)).trans e1
          have v2 := (eval_frame 65 y [] (t := 47) (by decide)).trans e2
          obtain ⟨A, hA⟩ : ∃ A, (⟨frameOf 65 y, []⟩ : Act) = A := ⟨_, rfl⟩
          rw [hA] at v1 v2 hK ⊢
          clear hA hy hp
          simp only [Act.eval] at v1 v2
          go_simp
          refine (HF7.out _ HP.out.bel).mono ?_
          rintro r w5 ⟨rfl, rfl⟩
          exact hK _ _ ⟨trivial, fun _ => rfl, JA.step fun L' y' h1 h2 h3 h4 => HP.out.alloc _ (h1 11 (by decide) (by decide)) (h1 12 (by decide) (by decide)) (h3 11 (by decide) (by decide))⟩
        · have e1 : y 41 = .slice (some ⟨b, off, none⟩) n c := (hp.out 1 (by decide)).2 (by decide)
          have e2 : y 48 = .int .i64 (i11 : Int) := (hp.out 8 (by decide)).2 (by decide)
          have hil := HI11.out
          intro K Q hK
          clear hcl hL
          have v1 := (eval_frame 65 y [] (t := 41) (by decide)).trans e1
          have v2 := (eval_frame 65 y [] (t := 48) (by decide)).trans e2
          obtain ⟨A, hA⟩ : ∃ A, (⟨frameOf 65 y, []⟩ : Act) = A := ⟨_, rfl⟩
          rw [hA] at v1 v2 hK ⊢
          clear hA hy hp
          simp only [Act.eval] at v1 v2
          go_simp
          first | exact hK _ _ ⟨trivial, fun _ => rfl, HJ.out.pure (by decide) (by decide)⟩ | (rw [if_pos ⟨by omega, by omega⟩]; exact hK _ _ ⟨trivial, fun _ => rfl, HJ.out.pure (by decide) (by decide)⟩)
        · have e1 : y 49 = .pointer (some ⟨b, off + i11 * 6, none⟩) := (hp.out 9 (by decide)).2 (by decide)
          obtain ⟨c0, c1, c2, c3, c4, c5⟩ := HA11.out _ HP.out.bel
          intro K Q hK
          clear hcl hL
          have v1 := (eval_frame 65 y [] (t := 49) (by decide)).trans e1
          obtain ⟨A, hA⟩ : ∃ A, (⟨frameOf 65 y, []⟩ : Act) = A := ⟨_, rfl⟩
          rw [hA] at v1 hK ⊢
          clear hA hy hp
          simp only [Act.eval] at v1
          go_simp
          exact hK _ _ ⟨trivial, fun _ => rfl, HJ.out.pure (by decide) (by decide)⟩
        · have hN12 : L 12 = false := by
            cases h : L 12 with
            | false => rfl
            | true => have := (hcl 12 _ rfl h 11 (by decide)); rw [hL] at this; cases this
          intro K Q hK
          clear hcl hL
          obtain ⟨A, hA⟩ : ∃ A, (⟨frameOf 65 y, []⟩ : Act) = A := ⟨_, rfl⟩
          rw [hA] at hK ⊢
          clear hA hy hp
          go_simp
          exact hK _ _ ⟨trivial, fun _ => trivial, JA.step fun L' y' h1 h2 h3 h4 => ⟨HP.out.bel.alloc HP.out.bel.size _, fun _ => ⟨w9.heap.size, h4 (by decide), HP.out.bel.size, fun _ => Blk.new _ _ _, (fun h => by rw [h1 12 (by decide) (by decide), hN12] at h; cases h)⟩⟩⟩
        · have hL11 : L 11 = true := (hp.out 11 (by decide)).1
          obtain ⟨g, e1, hge, hz, -⟩ := HP.out.a hL11
          have e2 : y 50 = .agg #[.int .u64 p11.a, .int .i64 p11.prot, .bool p11.dirty, .string p11.file, .int .u64 p11.off, .string (strOfNums p11.b)] := (hp.out 10 (by decide)).2 (by decide)
          have hN12 : L 12 = false := hL
          obtain ⟨q0, q1, q2, q3, q4, q5⟩ := Rp.cs (hz hN12)
          obtain ⟨f0, f1, f2, f3, f4, f5⟩ := Rp.fs (hz hN12)
          have hzb := Lib.hid (hz hN12)
          have ey := e1
          intro K Q hK
          clear hcl hL
          have v1 := (eval_frame 65 y [] (t := 11) (by decide)).trans e1
          have v2 := (eval_frame 65 y [] (t := 50) (by decide)).trans e2
          obtain ⟨A, hA⟩ : ∃ A, (⟨frameOf 65 y, []⟩ : Act) = A := ⟨_, rfl⟩
          rw [hA] at v1 v2 hK ⊢
          clear hA hy hp
          simp only [Act.eval] at v1 v2
          go_simp
          exact hK undef _ ⟨trivial, fun h => absurd h (by decide), JA.step fun L' y' h1 h2 h3 h4 => PBx.stored HP.out.bel hzb.out hge ((h3 11 (by decide) (by decide)).trans ey) (h2 (by decide))⟩

    case steps6 =>
      refine ⟨?_, ?_, ?_, ?_, ?_, ?_, ?_, ?_, ?_, trivial⟩
      all_goals intro L y w9 hJ hL hy0 hp0 hcl hun
      all_goals have hy := Lib.hid hy0
      all_goals have hp := Lib.hid hp0
      all_goals have HJ := Lib.hid hJ
      all_goals have HP := Lib.hid hJ.out
      all_goals have hU := Lib.hid hun
      all_goals clear hy0 hp0 hun hJ
      · have e1 : y 4 = .pointer (some ⟨w.heap.size, 0, none⟩) := hy.out 4 (by decide)
        intro K Q hK
        clear hcl hL
        have v1 := (eval_frame 65 y [] (t := 4) (by decide)).trans e1
        obtain ⟨A, hA⟩ : ∃ A, (⟨frameOf 65 y, []⟩ : Act) = A := ⟨_, rfl⟩
        rw [hA] at v1 hK ⊢
        clear hA hy hp
        simp only [Act.eval] at v1
        go_simp
        exact hK _ _ ⟨trivial, fun _ => rfl, HJ.out.pure (by decide) (by decide)⟩
      · have e1 : y 33 = .pointer (some ⟨w.heap.size, 0, none⟩) := (hp.out 0 (by decide)).2 (by decide)
        have q0 : w9.cell? ⟨w.heap.size, 0, none⟩ = some (.slice (some ⟨b, off, none⟩) n c) := (fun (_ : Nat) => HM6.out _ HP.out.bel) 0
        intro K Q hK
        clear hcl hL
        have v1 := (eval_frame 65 y [] (t := 33) (by decide)).trans e1
        obtain ⟨A, hA⟩ : ∃ A, (⟨frameOf 65 y, []⟩ : Act) = A := ⟨_, rfl⟩
        rw [hA] at v1 hK ⊢
        clear hA hy hp
        simp only [Act.eval] at v1
        go_simp
        exact hK _ _ ⟨trivial, fun _ => rfl, HJ.out.pure (by decide) (by decide)⟩
      · have e1 : y 4 = .pointer (some ⟨w.heap.size, 0, none⟩) := hy.out 4 (by decide)
        have q0 : w9.cell? ⟨w.heap.size, 0, none⟩ = some (.slice (some ⟨b, off, none⟩) n c) := (fun (_ : Nat) => HM6.out _ HP.out.bel) 0
        intro K Q hK
        clear hcl hL
        have v1 := (eval_frame 65 y [] (t := 4) (by decide)).trans e1
        obtain ⟨A, hA⟩ : ∃ A, (⟨frameOf 65 y, []⟩ : Act) = A := ⟨_, rfl⟩
        rw [hA] at v1 hK ⊢
        clear hA hy hp
        simp only [Act.eval] at v1
        go_simp
        exact hK _ _ ⟨trivial, fun _ => rfl, HJ.out.pure (by decide) (by decide)⟩
      · have e1 : y 1 = .int .u64 (x : Int) := hy.out 1 (by decide)
        intro K Q hK
        clear hcl hL
        have v1 := (eval_frame 65 y [] (t := 1) (by decide)).trans e1
        obtain ⟨A, hA⟩ : ∃ A, (⟨frameOf 65 y, []⟩ : Act) = A := ⟨_, rfl⟩
        rw [hA] at v1 hK ⊢
        clear hA hy hp
        simp only [Act.eval] at v1
        go_simp
        exact hK _ _ ⟨trivial, fun _ => rfl, HJ.out.pure (by decide) (by decide)⟩
      · have e1 : y 35 = .agg #[.slice (some ⟨b, off, none⟩) n c] := (hp.out 2 (by decide)).2 (by decide)
        have e2 : y 36 = .int .u64 (x : Int) := (hp.out 3 (by decide)).2 (by decide)
        intro K Q hK
        clear hcl hL
        have v1 := (eval_frame 65 y [] (t := 35) (by decide)).trans e1
        have v2 := (eval_frame 65 y [] (t := 36) (by decide)).trans e2
        obtain ⟨A, hA⟩ : ∃ A, (⟨frameOf 65 y, []⟩ : Act) = A := ⟨_, rfl⟩
        rw [hA] at v1 v2 hK ⊢
        clear hA hy hp
        simp only [Act.eval] at v1 v2
        go_simp
        refine (HF6.out _ HP.out.bel).mono ?_
        rintro r w5 ⟨rfl, rfl⟩
        exact hK _ _ ⟨trivial, fun _ => rfl, JA.step fun L' y' h1 h2 h3 h4 => HP.out.alloc _ (h1 7 (by decide) (by decide)) (h1 8 (by decide) (by decide)) (h3 10 (by decide) (by decide))⟩
      · have e1 : y 34 = .slice (some ⟨b, off, none⟩) n c := (hp.out 1 (by decide)).2 (by decide)
        have e2 : y 37 = .int .i64 (i10 : Int) := (hp.out 4 (by decide)).2 (by decide)
        have hil := HI10.out
        intro K Q hK
        clear hcl hL
        have v1 := (eval_frame 65 y [] (t := 34) (by decide)).trans e1
        have v2 := (eval_frame 65 y [] (t := 37) (by decide)).trans e2
        obtain ⟨A, hA⟩ : ∃ A, (⟨frameOf 65 y, []⟩ : Act) = A := ⟨_, rfl⟩
        rw [hA] at v1 v2 hK ⊢
        clear hA hy hp
        simp only [Act.eval] at v1 v2
        go_simp
        first | exact hK _ _ ⟨trivial, fun _ => rfl, HJ.out.pure (by decide) (by decide)⟩ | (rw [if_pos ⟨by omega, by omega⟩]; exact hK _ _ ⟨trivial, fun _ => rfl, HJ.out.pure (by decide) (by decide)⟩)
      · have e1 : y 38 = .pointer (some ⟨b, off + i10 * 6, none⟩) := (hp.out 5 (by decide)).2 (by decide)
        obtain ⟨c0, c1, c2, c3, c4, c5⟩ := HA10.out _ HP.out.bel
        intro K Q hK
        clear hcl hL
        have v1 := (eval_frame 65 y [] (t := 38) (by decide)).trans e1
        obtain ⟨A, hA⟩ : ∃ A, (⟨frameOf 65 y, []⟩ : Act) = A := ⟨_, rfl⟩
        rw [hA] at v1 hK ⊢
        clear hA hy hp
        simp only [Act.eval] at v1
        go_simp
        exact hK _ _ ⟨trivial, fun _ => rfl, HJ.out.pure (by decide) (by decide)⟩
      · have hN8 : L 8 = false := by
          cases h : L 8 with
          | false => rfl
          | true => have := (hcl 8 _ rfl h 7 (by decide)); rw [hL] at this; cases this
        intro K Q hK
        clear hcl hL
        obtain ⟨A, hA⟩ : ∃ A, (⟨frameOf 65 y, []⟩ : Act) = A := ⟨_, rfl⟩
        rw [hA] at hK ⊢
        clear hA hy hp
        go_simp
        exact hK _ _ ⟨trivial, fun _ => trivial, JA.step fun L' y' h1 h2 h3 h4 => ⟨HP.out.bel.alloc HP.out.bel.size _, fun _ => ⟨w9.heap.size, h4 (by decide), HP.out.bel.size, fun _ => Blk.new _ _ _, (fun h => by rw [h1 8 (by decide) (by decide), hN8] at h; cases h)⟩⟩⟩
      · have hL7 : L 7 = true := (hp.out 7 (by decide)).1
        obtain ⟨g, e1, hge, hz, -⟩ := HP.out.a hL7
        have e2 : y 39 = .agg #[.int .u64 p10.a, .int .i64 p10.prot, .bool p10.dirty, .string p10.file, .int .u64 p10.off, .string (strOfNums p10.b)] := (hp.out 6 (by decide)).2 (by decide)
        have hN8 : L 8 = false := hL
        obtain ⟨q0, q1, q2, q3, q4, q5⟩ := Rp.cs (hz hN8)
        obtain ⟨f0, f1, f2, f3, f4, f5⟩ := Rp.fs (hz hN8)
        have hzb := Lib.hid (hz hN8)
        have ey := e1
        intro K Q hK
        clear hcl hL
        have v1 := (eval_frame 65 y [] (t := 10) (by decide)).trans e1
        have v2 := (eval_frame 65 y [] (t := 39) (by decide)).trans e2
        obtain ⟨A, hA⟩ : ∃ A, (⟨frameOf 65 y, []⟩ : Act) = A := ⟨_, rfl⟩
        rw [hA] at v1 v2 hK ⊢
        clear hA hy hp
        simp only [Act.eval] at v1 v2
        go_simp
        exact hK undef _ ⟨trivial, fun h => absurd h (by decide), JA.step fun L' y' h1 h2 h3 h4 => PBx.stored HP.out.bel hzb.out hge ((h3 10 (by decide) (by decide)).trans ey) (h2 (by decide))⟩

set_option maxHeartbeats 12800000 in
set_option maxRecDepth 100000 in
theorem fits2_4 {w : World} {B : Nat} {a : Option Addr} {n c : Nat} {M : List Pg} (h : RAt w B a n c M) (hB : B ≤ w.heap.size) (x : Nat) (x1 : x ≤ 18446744073709551615) :
    Calls Try.prog 43 #[mv a n c, .int .u64 x, .int .i64 4, .int .i64 2] w fun e w' => e = .returned (.int .i64 (fitsZ M x 4 2)) ∧ Below w.heap.size w w' := by
  have HH := Lib.hid h
  have HB := Lib.hid hB
  have hnn := fits_none (M := M) (x := x) (n := 4) (r := 2) (by decide)
  obtain ⟨Z, hZ⟩ : ∃ Z, fitsZ M x 4 2 = Z := ⟨_, rfl⟩
  rw [hZ] at hnn ⊢
  have HNN := Lib.hid hnn
  have HZZ := Lib.hid hZ
  have HB1 : Hid (Below w.heap.size w (w.alloc (.cells #[.slice a n c] 34))) := Lib.hid ((Below.refl _ _).alloc (Nat.le_refl _) _)
  have BX := Lib.hid (Blk.new w #[.slice a n c] 34)
  have HTH := Lib.hid (there_ok (h.below ((Below.refl _ _).alloc hB (.cells #[.slice a n c] 34))) (by simp; omega) x 4 x1 (by omega) (by omega))
  obtain ⟨T, hT⟩ : ∃ T, (spanP M x 4).isSome = T := ⟨_, rfl⟩
  rw [hT] at HTH
  have HT := Lib.hid hT
  have HX1 := Lib.hid x1
  have hc0 : (w.alloc (.cells #[.slice a n c] 34)).cell? ⟨w.heap.size, 0, none⟩ = some (.slice a n c) := BX.out.cell 0
  unfold mv at *
  clear h hB hZ hnn hT
  go_enter Try.func43, Try.ntmps43
  go_wp2_with fail
  refine HTH.out.mono ?_
  rintro r1 w1 ⟨rfl, hb1⟩
  rw [World.size_alloc] at hb1
  have HBA : Hid (Below w.heap.size w w1) := Lib.hid (HB1.out.trans (hb1.mono (by omega)))
  have HK0 : Hid (Blk w1 w.heap.size #[.slice a n c] 34) := Lib.hid (BX.out.below hb1 (by omega))
  have c1 : w1.cell? ⟨w.heap.size, 0, none⟩ = some (.slice a n c) := HK0.out.cell 0
  clear hb1 hc0 HTH
  cases T with
  | false =>
    have HZ0 := Lib.hid (HNN.out HT.out)
    go_wp2
    go_ret
    exact ⟨by rw [HZ0.out]; rfl, HBA.out⟩
  | true =>
    obtain ⟨b, off, i10, i11, p10, p11, rfl, HI10, HI11, HA10, HF6, HP10, HP11, HZ1, HM6, HN11, HTOP⟩ := fits_facts (r := 2) (N := 4) (Y := (x + 3)) (by decide) (HH.out.below (HBA.out.mono HB.out)) (Nat.le_trans HB.out HBA.out.size) HK0.out HX1.out (by decide) (by omega) HT.out
    have HWX : Hid (IntKind.u64.wrap ((x : Int) + 4) = (x : Int) + 4) := Lib.hid (by rw [IntKind.wrap_u64]; have := HTOP.out; omega)
    have HWY : Hid (IntKind.u64.wrap ((x : Int) + 4 - 1) = ((x + 3) : Nat)) := Lib.hid (by rw [IntKind.wrap_u64]; have := HTOP.out; omega)
    have hz1 := HZ1.out
    rw [show fitsZ M x (4 : Nat) 2 = fitsZ M x 4 2 from rfl, HZZ.out] at hz1
    have HZ2 := Lib.hid hz1
    obtain ⟨W6, hW6⟩ : ∃ W : World, W = w1 := ⟨_, rfl⟩
    subst hW6
    clear hz1 HZ1 HNN HZZ BX x1
    go_wp2_with fail
    refine wp_region_a (by kernel_rfl) 65 rfl [33, 34, 35, 36, 37, 38, 39, 10, 65] (fun _ _ => True) (factsOf [Is (.pointer (some ⟨w.heap.size, 0, none⟩)), Is (.slice (some ⟨b, off, none⟩) n c), Is (.agg #[.slice (some ⟨b, off, none⟩) n c]), Is (.int .u64 (x : Int)), Is (.int .i64 (i10 : Int)), Is (.pointer (some ⟨b, off + i10 * 6, none⟩)), Is (.agg #[.int .u64 p10.a, .int .i64 p10.prot, .bool p10.dirty, .string p10.file, .int .u64 p10.off, .string (strOfNums p10.b)]), AnyB, AnyB]) (JA [7, 8] [10] (PBx W6 #[.int .u64 p10.a, .int .i64 p10.prot, .bool p10.dirty, .string p10.file, .int .u64 p10.off, .string (strOfNums p10.b)] 7 8 10)) ?mono6 ?hj6 (by kernel_rfl) ?start6 ?steps6 ?fin6
    case mono6 => exact factsOf_monoR (monoR_cons (Is.monoR _ _) (monoR_cons (Is.monoR _ _) (monoR_cons (Is.monoR _ _) (monoR_cons (Is.monoR _ _) (monoR_cons (Is.monoR _ _) (monoR_cons (Is.monoR _ _) (monoR_cons (Is.monoR _ _) (monoR_cons (AnyB.monoR _) (monoR_cons (AnyB.monoR _) (monoR_nil _))))))))))
    case hj6 => exact JA.congr (by decide)
    case start6 =>
      refine JA.of fun L' y' h1 h2 => ?_
      exact ⟨Below.drew (Below.refl _ _), (fun h => by rw [h1 7 (by decide)] at h; cases h)⟩
    case fin6 =>
      intro y L w9 hJ hall hF hT
      have hP := hJ.out
      clear hJ hF
      obtain ⟨g10, eg10, hge, -, hblk⟩ := hP.a (hall 7 (by decide))
      have HK10 := Lib.hid (hblk (hall 8 (by decide)))
      have HBL10 := Lib.hid hP.bel
      have HGE10 := Lib.hid hge
      clear hP hall hblk hge
      rw [frFt]
      simp only [eg10, hT 0 (by decide), hT 1 (by decide), hT 2 (by decide), hT 3 (by decide), hT 4 (by decide), hT 5 (by decide), hT 6 (by decide), hT 7 (by decide), hT 8 (by decide), hT 9 (by decide), hT 11 (by decide), hT 12 (by decide), hT 13 (by decide), hT 14 (by decide), hT 15 (by decide), hT 16 (by decide), hT 17 (by decide), hT 18 (by decide), hT 19 (by decide), hT 20 (by decide), hT 21 (by decide), hT 22 (by decide), hT 23 (by decide), hT 24 (by decide), hT 25 (by decide), hT 26 (by decide), hT 27 (by decide), hT 28 (by decide), hT 29 (by decide), hT 30 (by decide), hT 31 (by decide), hT 32 (by decide), hT 40 (by decide), hT 41 (by decide), hT 42 (by decide), hT 43 (by decide), hT 44 (by decide), hT 45 (by decide), hT 46 (by decide), hT 47 (by decide), hT 48 (by decide), hT 49 (by decide), hT 50 (by decide), hT 51 (by decide), hT 52 (by decide), hT 53 (by decide), hT 54 (by decide), hT 55 (by decide), hT 56 (by decide), hT 57 (by decide), hT 58 (by decide), hT 59 (by decide), hT 60 (by decide), hT 61 (by decide), hT 62 (by decide), hT 63 (by decide), hT 64 (by decide), List.getD_cons_succ, List.getD_cons_zero]
      clear hT eg10
      obtain ⟨W7, hW7⟩ : ∃ W : World, W = w9 := ⟨_, rfl⟩
      subst hW7
      have hn7 := HN11.out W7 HBL10.out
      have HF7 := Lib.hid hn7.1
      have HA11 := Lib.hid hn7.2.1
      have HM7 := Lib.hid hn7.2.2
      clear hn7
      clear c1
      go_wp2_with fail
      refine wp_region_a (by kernel_rfl) 65 rfl [40, 41, 42, 43, 44, 45, 46, 47, 48, 49, 50, 11, 65] (fun _ _ => True) (factsOf [Is (.pointer (some ⟨w.heap.size, 0, none⟩)), Is (.slice (some ⟨b, off, none⟩) n c), Is (.agg #[.slice (some ⟨b, off, none⟩) n c]), Is (.int .u64 (x : Int)), Is (.int .i64 4), Is (.int .u64 4), Is (.int .u64 ((x : Int) + 4)), Is (.int .u64 ((x + 3 : Nat) : Int)), Is (.int .i64 (i11 : Int)), Is (.pointer (some ⟨b, off + i11 * 6, none⟩)), Is (.agg #[.int .u64 p11.a, .int .i64 p11.prot, .bool p11.dirty, .string p11.file, .int .u64 p11.off, .string (strOfNums p11.b)]), AnyB, AnyB]) (JA [11, 12] [11] (PBx W7 #[.int .u64 p11.a, .int .i64 p11.prot, .bool p11.dirty, .string p11.file, .int .u64 p11.off, .string (strOfNums p11.b)] 11 12 11)) ?mono7 ?hj7 (by kernel_rfl) ?start7 ?steps7 ?fin7
      case mono7 => exact factsOf_monoR (monoR_cons (Is.monoR _ _) (monoR_cons (Is.monoR _ _) (monoR_cons (Is.monoR _ _) (monoR_cons (Is.monoR _ _) (monoR_cons (Is.monoR _ _) (monoR_cons (Is.monoR _ _) (monoR_cons (Is.monoR _ _) (monoR_cons (Is.monoR _ _) (monoR_cons (Is.monoR _ _) (monoR_cons (Is.monoR _ _) (monoR_cons (Is.monoR _ _) (monoR_cons (AnyB.monoR _) (monoR_cons (AnyB.monoR _) (monoR_nil _))))))))))))))
      case hj7 => exact JA.congr (by decide)
      case start7 =>
        refine JA.of fun L' y' h1 h2 => ?_
        exact ⟨Below.drew (Below.refl _ _), (fun h => by rw [h1 11 (by decide)] at h; cases h)⟩
      case fin7 =>
        intro y L w9 hJ hall hF hT
        have hP := hJ.out
        clear hJ hF
        obtain ⟨g11, eg11, hge, -, hblk⟩ := hP.a (hall 11 (by decide))
        have HK11 := Lib.hid (hblk (hall 12 (by decide)))
        have HBL11 := Lib.hid hP.bel
        have HGE11 := Lib.hid hge
        clear hP hall hblk hge
        rw [frFt]
        simp only [eg11, hT 0 (by decide), hT 1 (by decide), hT 2 (by decide), hT 3 (by decide), hT 4 (by decide), hT 5 (by decide), hT 6 (by decide), hT 7 (by decide), hT 8 (by decide), hT 9 (by decide), hT 10 (by decide), hT 12 (by decide), hT 13 (by decide), hT 14 (by decide), hT 15 (by decide), hT 16 (by decide), hT 17 (by decide), hT 18 (by decide), hT 19 (by decide), hT 20 (by decide), hT 21 (by decide), hT 22 (by decide), hT 23 (by decide), hT 24 (by decide), hT 25 (by decide), hT 26 (by decide), hT 27 (by decide), hT 28 (by decide), hT 29 (by decide), hT 30 (by decide), hT 31 (by decide), hT 32 (by decide), hT 33 (by decide), hT 34 (by decide), hT 35 (by decide), hT 36 (by decide), hT 37 (by decide), hT 38 (by decide), hT 39 (by decide), hT 51 (by decide), hT 52 (by decide), hT 53 (by decide), hT 54 (by decide), hT 55 (by decide), hT 56 (by decide), hT 57 (by decide), hT 58 (by decide), hT 59 (by decide), hT 60 (by decide), hT 61 (by decide), hT 62 (by decide), hT 63 (by decide), hT 64 (by decide), List.getD_cons_succ, List.getD_cons_zero]
        clear hT eg11
        obtain ⟨W8, hW8⟩ : ∃ W : World, W = w9 := ⟨_, rfl⟩
        subst hW8
        have HK10' : Hid (Blk W8 g10 #[.int .u64 p10.a, .int .i64 p10.prot, .bool p10.dirty, .string p10.file, .int .u64 p10.off, .string (strOfNums p10.b)] 66) := Lib.hid (HK10.out.later HBL11.out)
        have c10 : W8.cell? ⟨g10, 1, none⟩ = some (.int .i64 p10.prot) := HK10'.out.cell 1
        have c11 : W8.cell? ⟨g11, 1, none⟩ = some (.int .i64 p11.prot) := HK11.out.cell 1
        have HEND : Hid (Below w.heap.size w W8) := Lib.hid (HBA.out.trans ((HBL10.out.trans (HBL11.out.mono HBL10.out.size)).mono HBA.out.size))
        have hpp10 := HP10.out
        have hpp11 := HP11.out
        by_cases hq10 : p10.prot / 2 % 2 = 0
        · have HQ : Hid (Z = 41) := Lib.hid (by rw [HZ2.out]; exact if_pos (by rw [Bool.or_eq_true, beq_iff_eq, beq_iff_eq]; exact Or.inl hq10))
          go_wp2
          go_ret
          exact ⟨by rw [HQ.out]; rfl, HEND.out⟩
        · go_wp2
          all_goals go_ret
          all_goals refine ⟨?_, HEND.out⟩
          all_goals rw [HZ2.out]
          all_goals (split <;> rename_i hx hsp <;> first | rfl | (exfalso; simp at hx hsp; omega))
      case steps7 =>
        refine ⟨?_, ?_, ?_, ?_, ?_, ?_, ?_, ?_, ?_, ?_, ?_, ?_, ?_, trivial⟩
        all_goals intro L y w9 hJ hL hy0 hp0 hcl hun
        all_goals have hy := Lib.hid hy0
        all_goals have hp := Lib.hid hp0
        all_goals have HJ := Lib.hid hJ
        all_goals have HP := Lib.hid hJ.out
        all_goals have hU := Lib.hid hun
        all_goals clear hy0 hp0 hun hJ
        · have e1 : y 4 = .pointer (some ⟨w.heap.size, 0, none⟩) := hy.out 4 (by decide)
          intro K Q hK
          clear hcl hL
          have v1 := (eval_frame 65 y [] (t := 4) (by decide)).trans e1
          obtain ⟨A, hA⟩ : ∃ A, (⟨frameOf 65 y, []⟩ : Act) = A := ⟨_, rfl⟩
          rw [hA] at v1 hK ⊢
          clear hA hy hp
          simp only [Act.eval] at v1
          go_simp
          exact hK _ _ ⟨trivial, fun _ => rfl, HJ.out.pure (by decide) (by decide)⟩
        · have e1 : y 40 = .pointer (some ⟨w.heap.size, 0, none⟩) := (hp.out 0 (by decide)).2 (by decide)
          have q0 : w9.cell? ⟨w.heap.size, 0, none⟩ = some (.slice (some ⟨b, off, none⟩) n c) := (fun (_ : Nat) => HM7.out _ HP.out.bel) 0
          intro K Q hK
          clear hcl hL
          have v1 := (eval_frame 65 y [] (t := 40) (by decide)).trans e1
          obtain ⟨A, hA⟩ : ∃ A, (⟨frameOf 65 y, []⟩ : Act) = A := ⟨_, rfl⟩
          rw [hA] at v1 hK ⊢
          clear hA hy hp
          simp only [Act.eval] at v1
          go_simp
          exact hK _ _ ⟨trivial, fun _ => rfl, HJ.out.pure (by decide) (by decide)⟩
        · have e1 : y 4 = .pointer (some ⟨w.heap.size, 0, none⟩) := hy.out 4 (by decide)
          have q0 : w9.cell? ⟨w.heap.size, 0, none⟩ = some (.slice (some ⟨b, off, none⟩) n c) := (fun (_ : Nat) => HM7.out _ HP.out.bel) 0
          intro K Q hK
          clear hcl hL
          have v1 := (eval_frame 65 y [] (t := 4) (by decide)).trans e1
          obtain ⟨A, hA⟩ : ∃ A, (⟨frameOf 65 y, []⟩ : Act) = A := ⟨_, rfl⟩
          rw [hA] at v1 hK ⊢
          clear hA hy hp
          simp only [Act.eval] at v1
          go_simp
          exact hK _ _ ⟨trivial, fun _ => rfl, HJ.out.pure (by decide) (by decide)⟩
        · have e1 : y 1 = .int .u64 (x : Int) := hy.out 1 (by decide)
          intro K Q hK
          clear hcl hL
          have v1 := (eval_frame 65 y [] (t := 1) (by decide)).trans e1
          obtain ⟨A, hA⟩ : ∃ A, (⟨frameOf 65 y, []⟩ : Act) = A := ⟨_, rfl⟩
          rw [hA] at v1 hK ⊢
          clear hA hy hp
          simp only [Act.eval] at v1
          go_simp
          exact hK _ _ ⟨trivial, fun _ => rfl, HJ.out.pure (by decide) (by decide)⟩
        · have e1 : y 2 = .int .i64 4 := hy.out 2 (by decide)
          intro K Q hK
          clear hcl hL
          have v1 := (eval_frame 65 y [] (t := 2) (by decide)).trans e1
          obtain ⟨A, hA⟩ : ∃ A, (⟨frameOf 65 y, []⟩ : Act) = A := ⟨_, rfl⟩
          rw [hA] at v1 hK ⊢
          clear hA hy hp
          simp only [Act.eval] at v1
          go_simp
          exact hK _ _ ⟨trivial, fun _ => rfl, HJ.out.pure (by decide) (by decide)⟩
        · have e1 : y 44 = .int .i64 4 := (hp.out 4 (by decide)).2 (by decide)
          intro K Q hK
          clear hcl hL
          have v1 := (eval_frame 65 y [] (t := 44) (by decide)).trans e1
          obtain ⟨A, hA⟩ : ∃ A, (⟨frameOf 65 y, []⟩ : Act) = A := ⟨_, rfl⟩
          rw [hA] at v1 hK ⊢
          clear hA hy hp
          simp only [Act.eval] at v1
          go_simp
          exact hK _ _ ⟨trivial, fun _ => rfl, HJ.out.pure (by decide) (by decide)⟩
        · have e1 : y 43 = .int .u64 (x : Int) := (hp.out 3 (by decide)).2 (by decide)
          have e2 : y 45 = .int .u64 4 := (hp.out 5 (by decide)).2 (by decide)
          have hwx := HWX.out
          intro K Q hK
          clear hcl hL
          have v1 := (eval_frame 65 y [] (t := 43) (by decide)).trans e1
          have v2 := (eval_frame 65 y [] (t := 45) (by decide)).trans e2
          obtain ⟨A, hA⟩ : ∃ A, (⟨frameOf 65 y, []⟩ : Act) = A := ⟨_, rfl⟩
          rw [hA] at v1 v2 hK ⊢
          clear hA hy hp
          simp only [Act.eval] at v1 v2
          go_simp
          first | exact hK _ _ ⟨trivial, fun _ => rfl, HJ.out.pure (by decide) (by decide)⟩ | (rw [hwx]; exact hK _ _ ⟨trivial, fun _ => rfl, HJ.out.pure (by decide) (by decide)⟩)
        · have e1 : y 46 = .int .u64 ((x : Int) + 4) := (hp.out 6 (by decide)).2 (by decide)
          have hwy := HWY.out
          intro K Q hK
          clear hcl hL
          have v1 := (eval_frame 65 y [] (t := 46) (by decide)).trans e1
          obtain ⟨A, hA⟩ : ∃ A, (⟨frameOf 65 y, []⟩ : Act) = A := ⟨_, rfl⟩
          rw [hA] at v1 hK ⊢
          clear hA hy hp
          simp only [Act.eval] at v1
          go_simp
          first | exact hK _ _ ⟨trivial, fun _ => rfl, HJ.out.pure (by decide) (by decide)⟩ | (rw [hwy]; exact hK _ _ ⟨trivial, fun _ => rfl, HJ.out.pure (by decide) (by decide)⟩)
        · have e1 : y 42 = .agg #[.slice (some ⟨b, off, none⟩) n c] := (hp.out 2 (by decide)).2 (by decide)
          have e2 : y 47 = .int .u64 ((x + 3 : Nat) : Int) := (hp.out 7 (by decide)).2 (by decide)
          intro K Q hK
          clear hcl hL
          have v1 := (eval_frame 65 y [] (t := 42) (by decide)).trans e1
          have v2 := (eval_frame 65 y [] (t := 47) (by decide)).trans e2
          obtain ⟨A, hA⟩ : ∃ A, (⟨frameOf 65 y, []⟩ : Act) = A := ⟨_, rfl⟩
          rw [hA] at v1 v2 hK ⊢
          clear hA hy hp
          simp only [Act.eval] at v1 v2
          go_simp
          refine (HF7.out _ HP.out.bel).mono ?_
          rintro r w5 ⟨rfl, rfl⟩
          exact hK _ _ ⟨trivial, fun _ => rfl, JA.step fun L' y' h1 h2 h3 h4 => HP.out.alloc _ (h1 11 (by decide) (by decide)) (h1 12 (by decide) (by decide)) (h3 11 (by decide) (by decide))⟩
        · have e1 : y 41 = .slice (some ⟨b, off, none⟩) n c := (hp.out 1 (by decide)).2 (by decide)
          have e2 : y 48 = .int .i64 (i11 : Int) := (hp.out 8 (by decide)).2 (by decide)
          have hil := HI11.out
          intro K Q hK
          clear hcl hL
          have v1 := (eval_frame 65 y [] (t := 41) (by decide)).trans e1
          have v2 := (eval_frame 65 y [] (t := 48) (by decide)).trans e2
          obtain ⟨A, hA⟩ : ∃ A, (⟨frameOf 65 y, []⟩ : Act) = A := ⟨_, rfl⟩
          rw [hA] at v1 v2 hK ⊢
          clear hA hy hp
          simp only [Act.eval] at v1 v2
          go_simp
          first | exact hK _ _ ⟨trivial, fun _ => rfl, HJ.out.pure (by decide) (by decide)⟩ | (rw [if_pos ⟨by omega, by omega⟩]; exact hK _ _ ⟨trivial, fun _ => rfl, HJ.out.pure (by decide) (by decide)⟩)
        · have e1 : y 49 = .pointer (some ⟨b, off + i11 * 6, none⟩) := (hp.out 9 (by decide)).2 (by decide)
          obtain ⟨c0, c1, c2, c3, c4, c5⟩ := HA11.out _ HP.out.bel
          intro K Q hK
          clear hcl hL
          have v1 := (eval_frame 65 y [] (t := 49) (by decide)).trans e1
          obtain ⟨A, hA⟩ : ∃ A, (⟨frameOf 65 y, []⟩ : Act) = A := ⟨_, rfl⟩
          rw [hA] at v1 hK ⊢
          clear hA hy hp
          simp only [Act.eval] at v1
          go_simp
          exact hK _ _ ⟨trivial, fun _ => rfl, HJ.out.pure (by decide) (by decide)⟩
        · have hN12 : L 12 = false := by
            cases h : L 12 with
            | false => rfl
            | true => have := (hcl 12 _ rfl h 11 (by decide)); rw [hL] at this; cases this
          intro K Q hK
          clear hcl hL
          obtain ⟨A, hA⟩ : ∃ A, (⟨frameOf 65 y, []⟩ : Act) = A := ⟨_, rfl⟩
          rw [hA] at hK ⊢
          clear hA hy hp
          go_simp
          exact hK _ _ ⟨trivial, fun _ => trivial, JA.step fun L' y' h1 h2 h3 h4 => ⟨HP.out.bel.alloc HP.out.bel.size _, fun _ => ⟨w9.heap.size, h4 (by decide), HP.out.bel.size, fun _ => Blk.new _ _ _, (fun h => by rw [h1 12 (by decide) (by decide), hN12] at h; cases h)⟩⟩⟩
        · have hL11 : L 11 = true := (hp.out 11 (by decide)).1
          obtain ⟨g, e1, hge, hz, -⟩ := HP.out.a hL11
          have e2 : y 50 = .agg #[.int .u64 p11.a, .int .i64 p11.prot, .bool p11.dirty, .string p11.file, .int .u64 p11.off, .string (strOfNums p11.b)] := (hp.out 10 (by decide)).2 (by decide)
          have hN12 : L 12 = false := hL
          obtain ⟨q0, q1, q2, q3, q4, q5⟩ := Rp.cs (hz hN12)
          obtain ⟨f0, f1, f2, f3, f4, f5⟩ := Rp.fs (hz hN12)
          have hzb := Lib.hid (hz hN12)
          have ey := e1
          intro K Q hK
          clear hcl hL
          have v1 := (eval_frame 65 y [] (t := 11) (by decide)).trans e1
          have v2 := (eval_frame 65 y [] (t := 50) (by decide)).trans e2
          obtain ⟨A, hA⟩ : ∃ A, (⟨frameOf 65 y, []⟩ : Act) = A := ⟨_, rfl⟩
          rw [hA] at v1 v2 hK ⊢
          clear hA hy hp
          simp only [Act.eval] at v1 v2
          go_simp
          exact hK undef _ ⟨trivial, fun h => absurd h (by decide), JA.step fun L' y' h1 h2 h3 h4 => PBx.stored HP.out.bel hzb.out hge ((h3 11 (by decide) (by decide)).trans ey) (h2 (by decide))⟩

    case steps6 =>
      refine ⟨?_, ?_, ?_, ?_, ?_, ?_, ?_, ?_, ?_, trivial⟩
      all_goals intro L y w9 hJ hL hy0 hp0 hcl hun
      all_goals have hy := Lib.hid hy0
      all_goals have hp := Lib.hid hp0
      all_goals have HJ := Lib.hid hJ
      all_goals have HP := Lib.hid hJ.out
      all_goals have hU := Lib.hid hun
      all_goals clear hy0 hp0 hun hJ
      · have e1 : y 4 = .pointer (some ⟨w.heap.size, 0, none⟩) := hy.out 4 (by decide)
        intro K Q hK
        clear hcl hL
        have v1 := (eval_frame 65 y [] (t := 4) (by decide)).trans e1
        obtain ⟨A, hA⟩ : ∃ A, (⟨frameOf 65 y, []⟩ : Act) = A := ⟨_, rfl⟩
        rw [hA] at v1 hK ⊢
        clear hA hy hp
        simp only [Act.eval] at v1
        go_simp
        exact hK _ _ ⟨trivial, fun _ => rfl, HJ.out.pure (by decide) (by decide)⟩
      · have e1 : y 33 = .pointer (some ⟨w.heap.size, 0, none⟩) := (hp.out 0 (by decide)).2 (by decide)
        have q0 : w9.cell? ⟨w.heap.size, 0, none⟩ = some (.slice (some ⟨b, off, none⟩) n c) := (fun (_ : Nat) => HM6.out _ HP.out.bel) 0
        intro K Q hK
        clear hcl hL
        have v1 := (eval_frame 65 y [] (t := 33) (by decide)).trans e1
        obtain ⟨A, hA⟩ : ∃ A, (⟨frameOf 65 y, []⟩ : Act) = A := ⟨_, rfl⟩
        rw [hA] at v1 hK ⊢
        clear hA hy hp
        simp only [Act.eval] at v1
        go_simp
        exact hK _ _ ⟨trivial, fun _ => rfl, HJ.out.pure (by decide) (by decide)⟩
      · have e1 : y 4 = .pointer (some ⟨w.heap.size, 0, none⟩) := hy.out 4 (by decide)
        have q0 : w9.cell? ⟨w.heap.size, 0, none⟩ = some (.slice (some ⟨b, off, none⟩) n c) := (fun (_ : Nat) => HM6.out _ HP.out.bel) 0
        intro K Q hK
        clear hcl hL
        have v1 := (eval_frame 65 y [] (t := 4) (by decide)).trans e1
        obtain ⟨A, hA⟩ : ∃ A, (⟨frameOf 65 y, []⟩ : Act) = A := ⟨_, rfl⟩
        rw [hA] at v1 hK ⊢
        clear hA hy hp
        simp only [Act.eval] at v1
        go_simp
        exact hK _ _ ⟨trivial, fun _ => rfl, HJ.out.pure (by decide) (by decide)⟩
      · have e1 : y 1 = .int .u64 (x : Int) := hy.out 1 (by decide)
        intro K Q hK
        clear hcl hL
        have v1 := (eval_frame 65 y [] (t := 1) (by decide)).trans e1
        obtain ⟨A, hA⟩ : ∃ A, (⟨frameOf 65 y, []⟩ : Act) = A := ⟨_, rfl⟩
        rw [hA] at v1 hK ⊢
        clear hA hy hp
        simp only [Act.eval] at v1
        go_simp
        exact hK _ _ ⟨trivial, fun _ => rfl, HJ.out.pure (by decide) (by decide)⟩
      · have e1 : y 35 = .agg #[.slice (some ⟨b, off, none⟩) n c] := (hp.out 2 (by decide)).2 (by decide)
        have e2 : y 36 = .int .u64 (x : Int) := (hp.out 3 (by decide)).2 (by decide)
        intro K Q hK
        clear hcl hL
        have v1 := (eval_frame 65 y [] (t := 35) (by decide)).trans e1
        have v2 := (eval_frame 65 y [] (t := 36) (by decide)).trans e2
        obtain ⟨A, hA⟩ : ∃ A, (⟨frameOf 65 y, []⟩ : Act) = A := ⟨_, rfl⟩
        rw [hA] at v1 v2 hK ⊢
        clear hA hy hp
        simp only [Act.eval] at v1 v2
        go_simp
        refine (HF6.out _ HP.out.bel).mono ?_
        rintro r w5 ⟨rfl, rfl⟩
        exact hK _ _ ⟨trivial, fun _ => rfl, JA.step fun L' y' h1 h2 h3 h4 => HP.out.alloc _ (h1 7 (by decide) (by decide)) (h1 8 (by decide) (by decide)) (h3 10 (by decide) (by decide))⟩
      · have e1 : y 34 = .slice (some ⟨b, off, none⟩) n c := (hp.out 1 (by decide)).2 (by decide)
        have e2 : y 37 = .int .i64 (i10 : Int) := (hp.out 4 (by decide)).2 (by decide)
        have hil := HI10.out
        intro K Q hK
        clear hcl hL
        have v1 := (eval_frame 65 y [] (t := 34) (by decide)).trans e1
        have v2 := (eval_frame 65 y [] (t := 37) (by decide)).trans e2
        obtain ⟨A, hA⟩ : ∃ A, (⟨frameOf 65 y, []⟩ : Act) = A := ⟨_, rfl⟩
        rw [hA] at v1 v2 hK ⊢
        clear hA hy hp
        simp only [Act.eval] at v1 v2
        go_simp
        first | exact hK _ _ ⟨trivial, fun _ => rfl, HJ.out.pure (by decide) (by decide)⟩ | (rw [if_pos ⟨by omega, by omega⟩]; exact hK _ _ ⟨trivial, fun _ => rfl, HJ.out.pure (by decide) (by decide)⟩)
      · have e1 : y 38 = .pointer (some ⟨b, off + i10 * 6, none⟩) := (hp.out 5 (by decide)).2 (by decide)
        obtain ⟨c0, c1, c2, c3, c4, c5⟩ := HA10.out _ HP.out.bel
        intro K Q hK
        clear hcl hL
        have v1 := (eval_frame 65 y [] (t := 38) (by decide)).trans e1
        obtain ⟨A, hA⟩ : ∃ A, (⟨frameOf 65 y, []⟩ : Act) = A := ⟨_, rfl⟩
        rw [hA] at v1 hK ⊢
        clear hA hy hp
        simp only [Act.eval] at v1
        go_simp
        exact hK _ _ ⟨trivial, fun _ => rfl, HJ.out.pure (by decide) (by decide)⟩
      · have hN8 : L 8 = false := by
          cases h : L 8 with
          | false => rfl
          | true => have := (hcl 8 _ rfl h 7 (by decide)); rw [hL] at this; cases this
        intro K Q hK
        clear hcl hL
        obtain ⟨A, hA⟩ : ∃ A, (⟨frameOf 65 y, []⟩ : Act) = A := ⟨_, rfl⟩
        rw [hA] at hK ⊢
        clear hA hy hp
        go_simp
        exact hK _ _ ⟨trivial, fun _ => trivial, JA.step fun L' y' h1 h2 h3 h4 => ⟨HP.out.bel.alloc HP.out.bel.size _, fun _ => ⟨w9.heap.size, h4 (by decide), HP.out.bel.size, fun _ => Blk.new _ _ _, (fun h => by rw [h1 8 (by decide) (by decide), hN8] at h; cases h)⟩⟩⟩
      · have hL7 : L 7 = true := (hp.out 7 (by decide)).1
        obtain ⟨g, e1, hge, hz, -⟩ := HP.out.a hL7
        have e2 : y 39 = .agg #[.int .u64 p10.a, .int .i64 p10.prot, .bool p10.dirty, .string p10.file, .int .u64 p10.off, .string (strOfNums p10.b)] := (hp.out 6 (by decide)).2 (by decide)
        have hN8 : L 8 = false := hL
        obtain ⟨q0, q1, q2, q3, q4, q5⟩ := Rp.cs (hz hN8)
        obtain ⟨f0, f1, f2, f3, f4, f5⟩ := Rp.fs (hz hN8)
        have hzb := Lib.hid (hz hN8)
        have ey := e1
        intro K Q hK
        clear hcl hL
        have v1 := (eval_frame 65 y [] (t := 10) (by decide)).trans e1
        have v2 := (eval_frame 65 y [] (t := 39) (by decide)).trans e2
        obtain ⟨A, hA⟩ : ∃ A, (⟨frameOf 65 y, []⟩ : Act) = A := ⟨_, rfl⟩
        rw [hA] at v1 v2 hK ⊢
        clear hA hy hp
        simp only [Act.eval] at v1 v2
        go_simp
        exact hK undef _ ⟨trivial, fun h => absurd h (by decide), JA.step fun L' y' h1 h2 h3 h4 => PBx.stored HP.out.bel hzb.out hge ((h3 10 (by decide) (by decide)).trans ey) (h2 (by decide))⟩

set_option maxHeartbeats 12800000 in
set_option maxRecDepth 100000 in
theorem fits2_8 {w : World} {B : Nat} {a : Option Addr} {n c : Nat} {M : List Pg} (h : RAt w B a n c M) (hB : B ≤ w.heap.size) (x : Nat) (x1 : x ≤ 18446744073709551615) :
    Calls Try.prog 43 #[mv a n c, .int .u64 x, .int .i64 8, .int .i64 2] w fun e w' => e = .returned (.int .i64 (fitsZ M x 8 2)) ∧ Below w.heap.size w w' := by
  have HH := Lib.hid h
  have HB := Lib.hid hB
  have hnn := fits_none (M := M) (x := x) (n := 8) (r := 2) (by decide)
  obtain ⟨Z, hZ⟩ : ∃ Z, fitsZ M x 8 2 = Z := ⟨_, rfl⟩
  rw [hZ] at hnn ⊢
  have HNN := Lib.hid hnn
  have HZZ := Lib.hid hZ
  have HB1 : Hid (Below w.heap.size w (w.alloc (.cells #[.slice a n c] 34))) := Lib.hid ((Below.refl _ _).alloc (Nat.le_refl _) _)
  have BX := Lib.hid (Blk.new w #[.slice a n c] 34)
  have HTH := Lib.hid (there_ok (h.below ((Below.refl _ _).alloc hB (.cells #[.slice a n c] 34))) (by simp; omega) x 8 x1 (by omega) (by omega))
  obtain ⟨T, hT⟩ : ∃ T, (spanP M x 8).isSome = T := ⟨_, rfl⟩
  rw [hT] at HTH
  have HT := Lib.hid hT
  have HX1 := Lib.hid x1
  have hc0 : (w.alloc (.cells #[.slice a n c] 34)).cell? ⟨w.heap.size, 0, none⟩ = some (.slice a n c) := BX.out.cell 0
  unfold mv at *
  clear h hB hZ hnn hT
  go_enter Try.func43, Try.ntmps43
  go_wp2_with fail
  refine HTH.out.mono ?_
  rintro r1 w1 ⟨rfl, hb1⟩
  rw [World.size_alloc] at hb1
  have HBA : Hid (Below w.heap.size w w1) := Lib.hid (HB1.out.trans (hb1.mono (by omega)))
  have HK0 : Hid (Blk w1 w.heap.size #[.slice a n c] 34) := Lib.hid (BX.out.below hb1 (by omega))
  have c1 : w1.cell? ⟨w.heap.size, 0, none⟩ = some (.slice a n c) := HK0.out.cell 0
  clear hb1 hc0 HTH
  cases T with
  | false =>
    have HZ0 := Lib.hid (HNN.out HT.out)
    go_wp2
    go_ret
    exact ⟨by rw [HZ0.out]; rfl, HBA.out⟩
  | true =>
    obtain ⟨b, off, i10, i11, p10, p11, rfl, HI10, HI11, HA10, HF6, HP10, HP11, HZ1, HM6, HN11, HTOP⟩ := fits_facts (r := 2) (N := 8) (Y := (x + 7)) (by decide) (HH.out.below (HBA.out.mono HB.out)) (Nat.le_trans HB.out HBA.out.size) HK0.out HX1.out (by decide) (by omega) HT.out
    have HWX : Hid (IntKind.u64.wrap ((x : Int) + 8) = (x : Int) + 8) := Lib.hid (by rw [IntKind.wrap_u64]; have := HTOP.out; omega)
    have HWY : Hid (IntKind.u64.wrap ((x : Int) + 8 - 1) = ((x + 7) : Nat)) := Lib.hid (by rw [IntKind.wrap_u64]; have := HTOP.out; omega)
    have hz1 := HZ1.out
    rw [show fitsZ M x (8 : Nat) 2 = fitsZ M x 8 2 from rfl, HZZ.out] at hz1
    have HZ2 := Lib.hid hz1
    obtain ⟨W6, hW6⟩ : ∃ W : World, W = w1 := ⟨_, rfl⟩
    subst hW6
    clear hz1 HZ1 HNN HZZ BX x1
    go_wp2_with fail
    refine wp_region_a (by kernel_rfl) 65 rfl [33, 34, 35, 36, 37, 38, 39, 10, 65] (fun _ _ => True) (factsOf [Is (.pointer (some ⟨w.heap.size, 0, none⟩)), Is (.slice (some ⟨b, off, none⟩) n c), Is (.agg #[.slice (some ⟨b, off, none⟩) n c]), Is (.int .u64 (x : Int)), Is (.int .i64 (i10 : Int)), Is (.pointer (some ⟨b, off + i10 * 6, none⟩)), Is (.agg #[.int .u64 p10.a, .int .i64 p10.prot, .bool p10.dirty, .string p10.file, .int .u64 p10.off, .string (strOfNums p10.b)]), AnyB, AnyB]) (JA [7, 8] [10] (PBx W6 #[.int .u64 p10.a, .int .i64 p10.prot, .bool p10.dirty, .string p10.file, .int .u64 p10.off, .string (strOfNums p10.b)] 7 8 10)) ?mono6 ?hj6 (by kernel_rfl) ?start6 ?steps6 ?fin6
    case mono6 => exact factsOf_monoR (monoR_cons (Is.monoR _ _) (monoR_cons (Is.monoR _ _) (monoR_cons (Is.monoR _ _) (monoR_cons (Is.monoR _ _) (monoR_cons (Is.monoR _ _) (monoR_cons (Is.monoR _ _) (monoR_cons (Is.monoR _ _) (monoR_cons (AnyB.monoR _) (monoR_cons (AnyB.monoR _) (monoR_nil _))))))))))
    case hj6 => exact JA.congr (by decide)
    case start6 =>
      refine JA.of fun L' y' h1 h2 => ?_
      exact ⟨Below.drew (Below.refl _ _), (fun h => by rw [h1 7 (by decide)] at h; cases h)⟩
    case fin6 =>
      intro y L w9 hJ hall hF hT
      have hP := hJ.out
      clear hJ hF
      obtain ⟨g10, eg10, hge, -, hblk⟩ := hP.a (hall 7 (by decide))
      have HK10 := Lib.hid (hblk (hall 8 (by decide)))
      have HBL10 := Lib.hid hP.bel
      have HGE10 := Lib.hid hge
      clear hP hall hblk hge
      rw [frFt]
      simp only [eg10, hT 0 (by decide), hT 1 (by decide), hT 2 (by decide), hT 3 (by decide), hT 4 (by decide), hT 5 (by decide), hT 6 (by decide), hT 7 (by decide), hT 8 (by decide), hT 9 (by decide), hT 11 (by decide), hT 12 (by decide), hT 13 (by decide), hT 14 (by decide), hT 15 (by decide), hT 16 (by decide), hT 17 (by decide), hT 18 (by decide), hT 19 (by decide), hT 20 (by decide), hT 21 (by decide), hT 22 (by decide), hT 23 (by decide), hT 24 (by decide), hT 25 (by decide), hT 26 (by decide), hT 27 (by decide), hT 28 (by decide), hT 29 (by decide), hT 30 (by decide), hT 31 (by decide), hT 32 (by decide), hT 40 (by decide), hT 41 (by decide), hT 42 (by decide), hT 43 (by decide), hT 44 (by decide), hT 45 (by decide), hT 46 (by decide), hT 47 (by decide), hT 48 (by decide), hT 49 (by decide), hT 50 (by decide), hT 51 (by decide), hT 52 (by decide), hT 53 (by decide), hT 54 (by decide), hT 55 (by decide), hT 56 (by decide), hT 57 (by decide), hT 58 (by decide), hT 59 (by decide), hT 60 (by decide), hT 61 (by decide), hT 62 (by decide), hT 63 (by decide), hT 64 (by decide), List.getD_cons_succ, List.getD_cons_zero]
      clear hT eg10
      obtain ⟨W7, hW7⟩ : ∃ W : World, W = w9 := ⟨_, rfl⟩
      subst hW7
      have hn7 := HN11.out W7 HBL10.out
      have HF7 := Lib.hid hn7.1
      have HA11 := Lib.hid hn7.2.1
      have HM7 := Lib.hid hn7.2.2
      clear hn7
      clear c1
      go_wp2_with fail
      refine wp_region_a (by kernel_rfl) 65 rfl [40, 41, 42, 43, 44, 45, 46, 47, 48, 49, 50, 11, 65] (fun _ _ => True) (factsOf [Is (.pointer (some ⟨w.heap.size, 0, none⟩)), Is (.slice (some ⟨b, off, none⟩) n c), Is (.agg #[.slice (some ⟨b, off, none⟩) n c]), Is (.int .u64 (x : Int)), Is (.int .i64 8), Is (.int .u64 8), Is (.int .u64 ((x : Int) + 8)), Is (.int .u64 ((x + 7 : Nat) : Int)), Is (.int .i64 (i11 : Int)), Is (.pointer (some ⟨b, off + i11 * 6, none⟩)), Is (.agg #[.int .u64 p11.a, .int .i64 p11.prot, .bool p11.dirty, .string p11.file, .int .u64 p11.off, .string (strOfNums p11.b)]), AnyB, AnyB]) (JA [11, 12] [11] (PBx W7 #[.int .u64 p11.a, .int .i64 p11.prot, .bool p11.dirty, .string p11.file, .int .u64 p11.off, .string (strOfNums p11.b)] 11 12 11)) ?mono7 ?hj7 (by kernel_rfl) ?start7 ?steps7 ?fin7
      case mono7 => exact factsOf_monoR (monoR_cons (Is.monoR _ _) (monoR_cons (Is.monoR _ _) (monoR_cons (Is.monoR _ _) (monoR_cons (Is.monoR _ _) (monoR_cons (Is.monoR _ _) (monoR_cons (Is.monoR _ _) (monoR_cons (Is.monoR _ _) (monoR_cons (Is.monoR _ _) (monoR_cons (Is.monoR _ _) (monoR_cons (Is.monoR _ _) (monoR_cons (Is.monoR _ _) (monoR_cons (AnyB.monoR _) (monoR_cons (AnyB.monoR _) (monoR_nil _))))))))))))))
      case hj7 => exact JA.congr (by decide)
      case start7 =>
        refine JA.of fun L' y' h1 h2 => ?_
        exact ⟨Below.drew (Below.refl _ _), (fun h => by rw [h1 11 (by decide)] at h; cases h)⟩
      case fin7 =>
        intro y L w9 hJ hall hF hT
        have hP := hJ.out
        clear hJ hF
        obtain ⟨g11, eg11, hge, -, hblk⟩ := hP.a (hall 11 (by decide))
        have HK11 := Lib.hid (hblk (hall 12 (by decide)))
        have HBL11 := Lib.hid hP.bel
        have HGE11 := Lib.hid hge
        clear hP hall hblk hge
        rw [frFt]
        simp only [eg11, hT 0 (by decide), hT 1 (by decide), hT 2 (by decide), hT 3 (by decide), hT 4 (by decide), hT 5 (by decide), hT 6 (by decide), hT 7 (by decide), hT 8 (by decide), hT 9 (by decide), hT 10 (by decide), hT 12 (by decide), hT 13 (by decide), hT 14 (by decide), hT 15 (by decide), hT 16 (by decide), hT 17 (by decide), hT 18 (by decide), hT 19 (by decide), hT 20 (by decide), hT 21 (by decide), hT 22 (by decide), hT 23 (by decide), hT 24 (by decide), hT 25 (by decide), hT 26 (by decide), hT 27 (by decide), hT 28 (by decide), hT 29 (by decide), hT 30 (by decide), hT 31 (by decide), hT 32 (by decide), hT 33 (by decide), hT 34 (by decide), hT 35 (by decide), hT 36 (by decide), hT 37 (by decide), hT 38 (by decide), hT 39 (by decide), hT 51 (by decide), hT 52 (by decide), hT 53 (by decide), hT 54 (by decide), hT 55 (by decide), hT 56 (by decide), hT 57 (by decide), hT 58 (by decide), hT 59 (by decide), hT 60 (by decide), hT 61 (by decide), hT 62 (by decide), hT 63 (by decide), hT 64 (by decide), List.getD_cons_succ, List.getD_cons_zero]
        clear hT eg11
        obtain ⟨W8, hW8⟩ : ∃ W : World, W = w9 := ⟨_, rfl⟩
        subst hW8
        have HK10' : Hid (Blk W8 g10 #[.int .u64 p10.a, .int .i64 p10.prot, .bool p10.dirty, .string p10.file, .int .u64 p10.off, .string (strOfNums p10.b)] 66) := Lib.hid (HK10.out.later HBL11.out)
        have c10 : W8.cell? ⟨g10, 1, none⟩ = some (.int .i64 p10.prot) := HK10'.out.cell 1
        have c11 : W8.cell? ⟨g11, 1, none⟩ = some (.int .i64 p11.prot) := HK11.out.cell 1
        have HEND : Hid (Below w.heap.size w W8) := Lib.hid (HBA.out.trans ((HBL10.out.trans (HBL11.out.mono HBL10.out.size)).mono HBA.out.size))
        have hpp10 := HP10.out
        have hpp11 := HP11.out
        by_cases hq10 : p10.prot / 2 % 2 = 0
        · have HQ : Hid (Z = 41) := Lib.hid (by rw [HZ2.out]; exact if_pos (by rw [Bool.or_eq_true, beq_iff_eq, beq_iff_eq]; exact Or.inl hq10))
          go_wp2
          go_ret
          exact ⟨by rw [HQ.out]; rfl, HEND.out⟩
        · go_wp2
          all_goals go_ret
          all_goals refine ⟨?_, HEND.out⟩
          all_goals rw [HZ2.out]
          all_goals (split <;> rename_i hx hsp <;> first | rfl | (exfalso; simp at hx hsp; omega))
      case steps7 =>
        refine ⟨?_, ?_, ?_, ?_, ?_, ?_, ?_, ?_, ?_, ?_, ?_, ?_, ?_, trivial⟩
        all_goals intro L y w9 hJ hL hy0 hp0 hcl hun
        all_goals have hy := Lib.hid hy0
        all_goals have hp := Lib.hid hp0
        all_goals have HJ := Lib.hid hJ
        all_goals have HP := Lib.hid hJ.out
        all_goals have hU := Lib.hid hun
        all_goals clear hy0 hp0 hun hJ
        · have e1 : y 4 = .pointer (some ⟨w.heap.size, 0, none⟩) := hy.out 4 (by decide)
          intro K Q hK
          clear hcl hL
          have v1 := (eval_frame 65 y [] (t := 4) (by decide)).trans e1
          obtain ⟨A, hA⟩ : ∃ A, (⟨frameOf 65 y, []⟩ : Act) = A := ⟨_, rfl⟩
          rw [hA] at v1 hK ⊢
          clear hA hy hp
          simp only [Act.eval] at v1
          go_simp
          exact hK _ _ ⟨trivial, fun _ => rfl, HJ.out.pure (by decide) (by decide)⟩
        · have e1 : y 40 = .pointer (some ⟨w.heap.size, 0, none⟩) := (hp.out 0 (by decide)).2 (by decide)
          have q0 : w9.cell? ⟨w.heap.size, 0, none⟩ = some (.slice (some ⟨b, off, none⟩) n c) := (fun (_ : Nat) => HM7.out _ HP.out.bel) 0
          intro K Q hK
          clear hcl hL
          have v1 := (eval_frame 65 y [] (t := 40) (by decide)).trans e1
          obtain ⟨A, hA⟩ : ∃ A, (⟨frameOf 65 y, []⟩ : Act) = A := ⟨_, rfl⟩
          rw [hA] at v1 hK ⊢
          clear hA hy hp
          simp only [Act.eval] at v1
          go_simp
          exact hK _ _ ⟨trivial, fun _ => rfl, HJ.out.pure (by decide) (by decide)⟩
        · have e1 : y 4 = .pointer (some ⟨w.heap.size, 0, none⟩) := hy.out 4 (by decide)
          have q0 : w9.cell? ⟨w.heap.size, 0, none⟩ = some (.slice (some ⟨b, off, none⟩) n c) := (fun (_ : Nat) => HM7.out _ HP.out.bel) 0
          intro K Q hK
          clear hcl hL
          have v1 := (eval_frame 65 y [] (t := 4) (by decide)).trans e1
          obtain ⟨A, hA⟩ : ∃ A, (⟨frameOf 65 y, []⟩ : Act) = A := ⟨_, rfl⟩
          rw [hA] at v1 hK ⊢
          clear hA hy hp
          simp only [Act.eval] at v1
          go_simp
          exact hK _ _ ⟨trivial, fun _ => rfl, HJ.out.pure (by decide) (by decide)⟩
        · have e1 : y 1 = .int .u64 (x : Int) := hy.out 1 (by decide)
          intro K Q hK
          clear hcl hL
          have v1 := (eval_frame 65 y [] (t := 1) (by decide)).trans e1
          obtain ⟨A, hA⟩ : ∃ A, (⟨frameOf 65 y, []⟩ : Act) = A := ⟨_, rfl⟩
          rw [hA] at v1 hK ⊢
          clear hA hy hp
          simp only [Act.eval] at v1
          go_simp
          exact hK _ _ ⟨trivial, fun _ => rfl, HJ.out.pure (by decide) (by decide)⟩
        · have e1 : y 2 = .int .i64 8 := hy.out 2 (by decide)
          intro K Q hK
          clear hcl hL
          have v1 := (eval_frame 65 y [] (t := 2) (by decide)).trans e1
          obtain ⟨A, hA⟩ : ∃ A, (⟨frameOf 65 y, []⟩ : Act) = A := ⟨_, rfl⟩
          rw [hA] at v1 hK ⊢
          clear hA hy hp
          simp only [Act.eval] at v1
          go_simp
          exact hK _ _ ⟨trivial, fun _ => rfl, HJ.out.pure (by decide) (by decide)⟩
        · have e1 : y 44 = .int .i64 8 := (hp.out 4 (by decide)).2 (by decide)
          intro K Q hK
          clear hcl hL
          have v1 := (eval_frame 65 y [] (t := 44) (by decide)).trans e1
          obtain ⟨A, hA⟩ : ∃ A, (⟨frameOf 65 y, []⟩ : Act) = A := ⟨_, rfl⟩
          rw [hA] at v1 hK ⊢
          clear hA hy hp
          simp only [Act.eval] at v1
          go_simp
          exact hK _ _ ⟨trivial, fun _ => rfl, HJ.out.pure (by decide) (by decide)⟩
        · have e1 : y 43 = .int .u64 (x : Int) := (hp.out 3 (by decide)).2 (by decide)
          have e2 : y 45 = .int .u64 8 := (hp.out 5 (by decide)).2 (by decide)
          have hwx := HWX.out
          intro K Q hK
          clear hcl hL
          have v1 := (eval_frame 65 y [] (t := 43) (by decide)).trans e1
          have v2 := (eval_frame 65 y [] (t := 45) (by decide)).trans e2
          obtain ⟨A, hA⟩ : ∃ A, (⟨frameOf 65 y, []⟩ : Act) = A := ⟨_, rfl⟩
          rw [hA] at v1 v2 hK ⊢
          clear hA hy hp
          simp only [Act.eval] at v1 v2
          go_simp
          first | exact hK _ _ ⟨trivial, fun _ => rfl, HJ.out.pure (by decide) (by decide)⟩ | (rw [hwx]; exact hK _ _ ⟨trivial, fun _ => rfl, HJ.out.pure (by decide) (by decide)⟩)
        · have e1 : y 46 = .int .u64 ((x : Int) + 8) := (hp.out 6 (by decide)).2 (by decide)
          have hwy := HWY.out
          intro K Q hK
          clear hcl hL
          have v1 := (eval_frame 65 y [] (t := 46) (by decide)).trans e1
          obtain ⟨A, hA⟩ : ∃ A, (⟨frameOf 65 y, []⟩ : Act) = A := ⟨_, rfl⟩
          rw [hA] at v1 hK ⊢
          clear hA hy hp
          simp only [Act.eval] at v1
          go_simp
          first | exact hK _ _ ⟨trivial, fun _ => rfl, HJ.out.pure (by decide) (by decide)⟩ | (rw [hwy]; exact hK _ _ ⟨trivial, fun _ => rfl, HJ.out.pure (by decide) (by decide)⟩)
        · have e1 : y 42 = .agg #[.slice (some ⟨b, off, none⟩) n c] := (hp.out 2 (by decide)).2 (by decide)
          have e2 : y 47 = .int .u64 ((x + 7 : Nat) : Int) := (hp.out 7 (by decide)).2 (by decide)
          intro K Q hK
          clear hcl hL
          have v1 := (eval_frame 65 y [] (t := 42) (by decide)).trans e1
          have v2 := (eval_frame 65 y [] (t := 47) (by decide)).trans e2
          obtain ⟨A, hA⟩ : ∃ A, (⟨frameOf 65 y, []⟩ : Act) = A := ⟨_, rfl⟩
          rw [hA] at v1 v2 hK ⊢
          clear hA hy hp
          simp only [Act.eval] at v1 v2
          go_simp
          refine (HF7.out _ HP.out.bel).mono ?_
          rintro r w5 ⟨rfl, rfl⟩
          exact hK _ _ ⟨trivial, fun _ => rfl, JA.step fun L' y' h1 h2 h3 h4 => HP.out.alloc _ (h1 11 (by decide) (by decide)) (h1 12 (by decide) (by decide)) (h3 11 (by decide) (by decide))⟩
        · have e1 : y 41 = .slice (some ⟨b, off, none⟩) n c := (hp.out 1 (by decide)).2 (by decide)
          have e2 : y 48 = .int .i64 (i11 : Int) := (hp.out 8 (by decide)).2 (by decide)
          have hil := HI11.out
          intro K Q hK
          clear hcl hL
          have v1 := (eval_frame 65 y [] (t := 41) (by decide)).trans e1
          have v2 := (eval_frame 65 y [] (t := 48) (by decide)).trans e2
          obtain ⟨A, hA⟩ : ∃ A, (⟨frameOf 65 y, []⟩ : Act) = A := ⟨_, rfl⟩
          rw [hA] at v1 v2 hK ⊢
          clear hA hy hp
          simp only [Act.eval] at v1 v2
          go_simp
          first | exact hK _ _ ⟨trivial, fun _ => rfl, HJ.out.pure (by decide) (by decide)⟩ | (rw [if_pos ⟨by omega, by omega⟩]; exact hK _ _ ⟨trivial, fun _ => rfl, HJ.out.pure (by decide) (by decide)⟩)
        · have e1 : y 49 = .pointer (some ⟨b, off + i11 * 6, none⟩) := (hp.out 9 (by decide)).2 (by decide)
          obtain ⟨c0, c1, c2, c3, c4, c5⟩ := HA11.out _ HP.out.bel
          intro K Q hK
          clear hcl hL
          have v1 := (eval_frame 65 y [] (t := 49) (by decide)).trans e1
          obtain ⟨A, hA⟩ : ∃ A, (⟨frameOf 65 y, []⟩ : Act) = A := ⟨_, rfl⟩
          rw [hA] at v1 hK ⊢
          clear hA hy hp
          simp only [Act.eval] at v1
          go_simp
          exact hK _ _ ⟨trivial, fun _ => rfl, HJ.out.pure (by decide) (by decide)⟩
        · have hN12 : L 12 = false := by
            cases h : L 12 with
            | false => rfl
            | true => have := (hcl 12 _ rfl h 11 (by decide)); rw [hL] at this; cases this
          intro K Q hK
          clear hcl hL
          obtain ⟨A, hA⟩ : ∃ A, (⟨frameOf 65 y, []⟩ : Act) = A := ⟨_, rfl⟩
          rw [hA] at hK ⊢
          clear hA hy hp
          go_simp
          exact hK _ _ ⟨trivial, fun _ => trivial, JA.step fun L' y' h1 h2 h3 h4 => ⟨HP.out.bel.alloc HP.out.bel.size _, fun _ => ⟨w9.heap.size, h4 (by decide), HP.out.bel.size, fun _ => Blk.new _ _ _, (fun h => by rw [h1 12 (by decide) (by decide), hN12] at h; cases h)⟩⟩⟩
        · have hL11 : L 11 = true := (hp.out 11 (by decide)).1
          obtain ⟨g, e1, hge, hz, -⟩ := HP.out.a hL11
          have e2 : y 50 = .agg #[.int .u64 p11.a, .int .i64 p11.prot, .bool p11.dirty, .string p11.file, .int .u64 p11.off, .string (strOfNums p11.b)] := (hp.out 10 (by decide)).2 (by decide)
          have hN12 : L 12 = false := hL
          obtain ⟨q0, q1, q2, q3, q4, q5⟩ := Rp.cs (hz hN12)
          obtain ⟨f0, f1, f2, f3, f4, f5⟩ := Rp.fs (hz hN12)
          have hzb := Lib.hid (hz hN12)
          have ey := e1
          intro K Q hK
          clear hcl hL
          have v1 := (eval_frame 65 y [] (t := 11) (by decide)).trans e1
          have v2 := (eval_frame 65 y [] (t := 50) (by decide)).trans e2
          obtain ⟨A, hA⟩ : ∃ A, (⟨frameOf 65 y, []⟩ : Act) = A := ⟨_, rfl⟩
          rw [hA] at v1 v2 hK ⊢
          clear hA hy hp
          simp only [Act.eval] at v1 v2
          go_simp
          exact hK undef _ ⟨trivial, fun h => absurd h (by decide), JA.step fun L' y' h1 h2 h3 h4 => PBx.stored HP.out.bel hzb.out hge ((h3 11 (by decide) (by decide)).trans ey) (h2 (by decide))⟩

    case steps6 =>
      refine ⟨?_, ?_, ?_, ?_, ?_, ?_, ?_, ?_, ?_, trivial⟩
      all_goals intro L y w9 hJ hL hy0 hp0 hcl hun
      all_goals have hy := Lib.hid hy0
      all_goals have hp := Lib.hid hp0
      all_goals have HJ := Lib.hid hJ
      all_goals have HP := Lib.hid hJ.out
      all_goals have hU := Lib.hid hun
      all_goals clear hy0 hp0 hun hJ
      · have e1 : y 4 = .pointer (some ⟨w.heap.size, 0, none⟩) := hy.out 4 (by decide)
        intro K Q hK
        clear hcl hL
        have v1 := (eval_frame 65 y [] (t := 4) (by decide)).trans e1
        obtain ⟨A, hA⟩ : ∃ A, (⟨frameOf 65 y, []⟩ : Act) = A := ⟨_, rfl⟩
        rw [hA] at v1 hK ⊢
        clear hA hy hp
        simp only [Act.eval] at v1
        go_simp
        exact hK _ _ ⟨trivial, fun _ => rfl, HJ.out.pure (by decide) (by decide)⟩
      · have e1 : y 33 = .pointer (some ⟨w.heap.size, 0, none⟩) := (hp.out 0 (by decide)).2 (by decide)
        have q0 : w9.cell? ⟨w.heap.size, 0, none⟩ = some (.slice (some ⟨b, off, none⟩) n c) := (fun (_ : Nat) => HM6.out _ HP.out.bel) 0
        intro K Q hK
        clear hcl hL
        have v1 := (eval_frame 65 y [] (t := 33) (by decide)).trans e1
        obtain ⟨A, hA⟩ : ∃ A, (⟨frameOf 65 y, []⟩ : Act) = A := ⟨_, rfl⟩
        rw [hA] at v1 hK ⊢
        clear hA hy hp
        simp only [Act.eval] at v1
        go_simp
        exact hK _ _ ⟨trivial, fun _ => rfl, HJ.out.pure (by decide) (by decide)⟩
      · have e1 : y 4 = .pointer (some ⟨w.heap.size, 0, none⟩) := hy.out 4 (by decide)
        have q0 : w9.cell? ⟨w.heap.size, 0, none⟩ = some (.slice (some ⟨b, off, none⟩) n c) := (fun (_ : Nat) => HM6.out _ HP.out.bel) 0
        intro K Q hK
        clear hcl hL
        have v1 := (eval_frame 65 y [] (t := 4) (by decide)).trans e1
        obtain ⟨A, hA⟩ : ∃ A, (⟨frameOf 65 y, []⟩ : Act) = A := ⟨_, rfl⟩
        rw [hA] at v1 hK ⊢
        clear hA hy hp
        simp only [Act.eval] at v1
        go_simp
        exact hK _ _ ⟨trivial, fun _ => rfl, HJ.out.pure (by decide) (by decide)⟩
      · have e1 : y 1 = .int .u64 (x : Int) := hy.out 1 (by decide)
        intro K Q hK
        clear hcl hL
        have v1 := (eval_frame 65 y [] (t := 1) (by decide)).trans e1
        obtain ⟨A, hA⟩ : ∃ A, (⟨frameOf 65 y, []⟩ : Act) = A := ⟨_, rfl⟩
        rw [hA] at v1 hK ⊢
        clear hA hy hp
        simp only [Act.eval] at v1
        go_simp
        exact hK _ _ ⟨trivial, fun _ => rfl, HJ.out.pure (by decide) (by decide)⟩
      · have e1 : y 35 = .agg #[.slice (some ⟨b, off, none⟩) n c] := (hp.out 2 (by decide)).2 (by decide)
        have e2 : y 36 = .int .u64 (x : Int) := (hp.out 3 (by decide)).2 (by decide)
        intro K Q hK
        clear hcl hL
        have v1 := (eval_frame 65 y [] (t := 35) (by decide)).trans e1
        have v2 := (eval_frame 65 y [] (t := 36) (by decide)).trans e2
        obtain ⟨A, hA⟩ : ∃ A, (⟨frameOf 65 y, []⟩ : Act) = A := ⟨_, rfl⟩
        rw [hA] at v1 v2 hK ⊢
        clear hA hy hp
        simp only [Act.eval] at v1 v2
        go_simp
        refine (HF6.out _ HP.out.bel).mono ?_
        rintro r w5 ⟨rfl, rfl⟩
        exact hK _ _ ⟨trivial, fun _ => rfl, JA.step fun L' y' h1 h2 h3 h4 => HP.out.alloc _ (h1 7 (by decide) (by decide)) (h1 8 (by decide) (by decide)) (h3 10 (by decide) (by decide))⟩
      · have e1 : y 34 = .slice (some ⟨b, off, none⟩) n c := (hp.out 1 (by decide)).2 (by decide)
        have e2 : y 37 = .int .i64 (i10 : Int) := (hp.out 4 (by decide)).2 (by decide)
        have hil := HI10.out
        intro K Q hK
        clear hcl hL
        have v1 := (eval_frame 65 y [] (t := 34) (by decide)).trans e1
        have v2 := (eval_frame 65 y [] (t := 37) (by decide)).trans e2
        obtain ⟨A, hA⟩ : ∃ A, (⟨frameOf 65 y, []⟩ : Act) = A := ⟨_, rfl⟩
        rw [hA] at v1 v2 hK ⊢
        clear hA hy hp
        simp only [Act.eval] at v1 v2
        go_simp
        first | exact hK _ _ ⟨trivial, fun _ => rfl, HJ.out.pure (by decide) (by decide)⟩ | (rw [if_pos ⟨by omega, by omega⟩]; exact hK _ _ ⟨trivial, fun _ => rfl, HJ.out.pure (by decide) (by decide)⟩)
      · have e1 : y 38 = .pointer (some ⟨b, off + i10 * 6, none⟩) := (hp.out 5 (by decide)).2 (by decide)
        obtain ⟨c0, c1, c2, c3, c4, c5⟩ := HA10.out _ HP.out.bel
        intro K Q hK
        clear hcl hL
        have v1 := (eval_frame 65 y [] (t := 38) (by decide)).trans e1
        obtain ⟨A, hA⟩ : ∃ A, (⟨frameOf 65 y, []⟩ : Act) = A := ⟨_, rfl⟩
        rw [hA] at v1 hK ⊢
        clear hA hy hp
        simp only [Act.eval] at v1
        go_simp
        exact hK _ _ ⟨trivial, fun _ => rfl, HJ.out.pure (by decide) (by decide)⟩
      · have hN8 : L 8 = false := by
          cases h : L 8 with
          | false => rfl
          | true => have := (hcl 8 _ rfl h 7 (by decide)); rw [hL] at this; cases this
        intro K Q hK
        clear hcl hL
        obtain ⟨A, hA⟩ : ∃ A, (⟨frameOf 65 y, []⟩ : Act) = A := ⟨_, rfl⟩
        rw [hA] at hK ⊢
        clear hA hy hp
        go_simp
        exact hK _ _ ⟨trivial, fun _ => trivial, JA.step fun L' y' h1 h2 h3 h4 => ⟨HP.out.bel.alloc HP.out.bel.size _, fun _ => ⟨w9.heap.size, h4 (by decide), HP.out.bel.size, fun _ => Blk.new _ _ _, (fun h => by rw [h1 8 (by decide) (by decide), hN8] at h; cases h)⟩⟩⟩
      · have hL7 : L 7 = true := (hp.out 7 (by decide)).1
        obtain ⟨g, e1, hge, hz, -⟩ := HP.out.a hL7
        have e2 : y 39 = .agg #[.int .u64 p10.a, .int .i64 p10.prot, .bool p10.dirty, .string p10.file, .int .u64 p10.off, .string (strOfNums p10.b)] := (hp.out 6 (by decide)).2 (by decide)
        have hN8 : L 8 = false := hL
        obtain ⟨q0, q1, q2, q3, q4, q5⟩ := Rp.cs (hz hN8)
        obtain ⟨f0, f1, f2, f3, f4, f5⟩ := Rp.fs (hz hN8)
        have hzb := Lib.hid (hz hN8)
        have ey := e1
        intro K Q hK
        clear hcl hL
        have v1 := (eval_frame 65 y [] (t := 10) (by decide)).trans e1
        have v2 := (eval_frame 65 y [] (t := 39) (by decide)).trans e2
        obtain ⟨A, hA⟩ : ∃ A, (⟨frameOf 65 y, []⟩ : Act) = A := ⟨_, rfl⟩
        rw [hA] at v1 v2 hK ⊢
        clear hA hy hp
        simp only [Act.eval] at v1 v2
        go_simp
        exact hK undef _ ⟨trivial, fun h => absurd h (by decide), JA.step fun L' y' h1 h2 h3 h4 => PBx.stored HP.out.bel hzb.out hge ((h3 10 (by decide) (by decide)).trans ey) (h2 (by decide))⟩

set_option maxHeartbeats 12800000 in
set_option maxRecDepth 100000 in
theorem fits1_8 {w : World} {B : Nat} {a : Option Addr} {n c : Nat} {M : List Pg} (h : RAt w B a n c M) (hB : B ≤ w.heap.size) (x : Nat) (x1 : x ≤ 18446744073709551615) :
    Calls Try.prog 43 #[mv a n c, .int .u64 x, .int .i64 8, .int .i64 1] w fun e w' => e = .returned (.int .i64 (fitsZ M x 8 1)) ∧ Below w.heap.size w w' := by
  have HH := Lib.hid h
  have HB := Lib.hid hB
  have hnn := fits_none (M := M) (x := x) (n := 8) (r := 1) (by decide)
  obtain ⟨Z, hZ⟩ : ∃ Z, fitsZ M x 8 1 = Z := ⟨_, rfl⟩
  rw [hZ] at hnn ⊢
  have HNN := Lib.hid hnn
  have HZZ := Lib.hid hZ
  have HB1 : Hid (Below w.heap.size w (w.alloc (.cells #[.slice a n c] 34))) := Lib.hid ((Below.refl _ _).alloc (Nat.le_refl _) _)
  have BX := Lib.hid (Blk.new w #[.slice a n c] 34)
  have HTH := Lib.hid (there_ok (h.below ((Below.refl _ _).alloc hB (.cells #[.slice a n c] 34))) (by simp; omega) x 8 x1 (by omega) (by omega))
  obtain ⟨T, hT⟩ : ∃ T, (spanP M x 8).isSome = T := ⟨_, rfl⟩
  rw [hT] at HTH
  have HT := Lib.hid hT
  have HX1 := Lib.hid x1
  have hc0 : (w.alloc (.cells #[.slice a n c] 34)).cell? ⟨w.heap.size, 0, none⟩ = some (.slice a n c) := BX.out.cell 0
  unfold mv at *
  clear h hB hZ hnn hT
  go_enter Try.func43, Try.ntmps43
  go_wp2_with fail
  refine HTH.out.mono ?_
  rintro r1 w1 ⟨rfl, hb1⟩
  rw [World.size_alloc] at hb1
  have HBA : Hid (Below w.heap.size w w1) := Lib.hid (HB1.out.trans (hb1.mono (by omega)))
  have HK0 : Hid (Blk w1 w.heap.size #[.slice a n c] 34) := Lib.hid (BX.out.below hb1 (by omega))
  have c1 : w1.cell? ⟨w.heap.size, 0, none⟩ = some (.slice a n c) := HK0.out.cell 0
  clear hb1 hc0 HTH
  cases T with
  | false =>
    have HZ0 := Lib.hid (HNN.out HT.out)
    go_wp2
    go_ret
    exact ⟨by rw [HZ0.out]; rfl, HBA.out⟩
  | true =>
    obtain ⟨b, off, i10, i11, p10, p11, rfl, HI10, HI11, HA10, HF6, HP10, HP11, HZ1, HM6, HN11, HTOP⟩ := fits_facts (r := 1) (N := 8) (Y := (x + 7)) (by decide) (HH.out.below (HBA.out.mono HB.out)) (Nat.le_trans HB.out HBA.out.size) HK0.out HX1.out (by decide) (by omega) HT.out
    have HWX : Hid (IntKind.u64.wrap ((x : Int) + 8) = (x : Int) + 8) := Lib.hid (by rw [IntKind.wrap_u64]; have := HTOP.out; omega)
    have HWY : Hid (IntKind.u64.wrap ((x : Int) + 8 - 1) = ((x + 7) : Nat)) := Lib.hid (by rw [IntKind.wrap_u64]; have := HTOP.out; omega)
    have hz1 := HZ1.out
    rw [show fitsZ M x (8 : Nat) 1 = fitsZ M x 8 1 from rfl, HZZ.out] at hz1
    have HZ2 := Lib.hid hz1
    obtain ⟨W6, hW6⟩ : ∃ W : World, W = w1 := ⟨_, rfl⟩
    subst hW6
    clear hz1 HZ1 HNN HZZ BX x1
    go_wp2_with fail
    refine wp_region_a (by kernel_rfl) 65 rfl [33, 34, 35, 36, 37, 38, 39, 10, 65] (fun _ _ => True) (factsOf [Is (.pointer (some ⟨w.heap.size, 0, none⟩)), Is (.slice (some ⟨b, off, none⟩) n c), Is (.agg #[.slice (some ⟨b, off, none⟩) n c]), Is (.int .u64 (x : Int)), Is (.int .i64 (i10 : Int)), Is (.pointer (some ⟨b, off + i10 * 6, none⟩)), Is (.agg #[.int .u64 p10.a, .int .i64 p10.prot, .bool p10.dirty, .string p10.file, .int .u64 p10.off, .string (strOfNums p10.b)]), AnyB, AnyB]) (JA [7, 8] [10] (PBx W6 #[.int .u64 p10.a, .int .i64 p10.prot, .bool p10.dirty, .string p10.file, .int .u64 p10.off, .string (strOfNums p10.b)] 7 8 10)) ?mono6 ?hj6 (by kernel_rfl) ?start6 ?steps6 ?fin6
    case mono6 => exact factsOf_monoR (monoR_cons (Is.monoR _ _) (monoR_cons (Is.monoR _ _) (monoR_cons (Is.monoR _ _) (monoR_cons (Is.monoR _ _) (monoR_cons (Is.monoR _ _) (monoR_cons (Is.monoR _ _) (monoR_cons (Is.monoR _ _) (monoR_cons (AnyB.monoR _) (monoR_cons (AnyB.monoR _) (monoR_nil _))))))))))
    case hj6 => exact JA.congr (by decide)
    case start6 =>
      refine JA.of fun L' y' h1 h2 => ?_
      exact ⟨Below.drew (Below.refl _ _), (fun h => by rw [h1 7 (by decide)] at h; cases h)⟩
    case fin6 =>
      intro y L w9 hJ hall hF hT
      have hP := hJ.out
      clear hJ hF
      obtain ⟨g10, eg10, hge, -, hblk⟩ := hP.a (hall 7 (by decide))
      have HK10 := Lib.hid (hblk (hall 8 (by decide)))
      have HBL10 := Lib.hid hP.bel
      have HGE10 := Lib.hid hge
      clear hP hall hblk hge
      rw [frFt]
      simp only [eg10, hT 0 (by decide), hT 1 (by decide), hT 2 (by decide), hT 3 (by decide), hT 4 (by decide), hT 5 (by decide), hT 6 (by decide), hT 7 (by decide), hT 8 (by decide), hT 9 (by decide), hT 11 (by decide), hT 12 (by decide), hT 13 (by decide), hT 14 (by decide), hT 15 (by decide), hT 16 (by decide), hT 17 (by decide), hT 18 (by decide), hT 19 (by decide), hT 20 (by decide), hT 21 (by decide), hT 22 (by decide), hT 23 (by decide), hT 24 (by decide), hT 25 (by decide), hT 26 (by decide), hT 27 (by decide), hT 28 (by decide), hT 29 (by decide), hT 30 (by decide), hT 31 (by decide), hT 32 (by decide), hT 40 (by decide), hT 41 (by decide), hT 42 (by decide), hT 43 (by decide), hT 44 (by decide), hT 45 (by decide), hT 46 (by decide), hT 47 (by decide), hT 48 (by decide), hT 49 (by decide), hT 50 (by decide), hT 51 (by decide), hT 52 (by decide), hT 53 (by decide), hT 54 (by decide), hT 55 (by decide), hT 56 (by decide), hT 57 (by decide), hT 58 (by decide), hT 59 (by decide), hT 60 (by decide), hT 61 (by decide), hT 62 (by decide), hT 63 (by decide), hT 64 (by decide), List.getD_cons_succ, List.getD_cons_zero]
      clear hT eg10
      obtain ⟨W7, hW7⟩ : ∃ W : World, W = w9 := ⟨_, rfl⟩
      subst hW7
      have hn7 := HN11.out W7 HBL10.out
      have HF7 := Lib.hid hn7.1
      have HA11 := Lib.hid hn7.2.1
      have HM7 := Lib.hid hn7.2.2
      clear hn7
      clear c1
      go_wp2_with fail
      refine wp_region_a (by kernel_rfl) 65 rfl [40, 41, 42, 43, 44, 45, 46, 47, 48, 49, 50, 11, 65] (fun _ _ => True) (factsOf [Is (.pointer (some ⟨w.heap.size, 0, none⟩)), Is (.slice (some ⟨b, off, none⟩) n c), Is (.agg #[.slice (some ⟨b, off, none⟩) n c]), Is (.int .u64 (x : Int)), Is (.int .i64 8), Is (.int .u64 8), Is (.int .u64 ((x : Int) + 8)), Is (.int .u64 ((x + 7 : Nat) : Int)), Is (.int .i64 (i11 : Int)), Is (.pointer (some ⟨b, off + i11 * 6, none⟩)), Is (.agg #[.int .u64 p11.a, .int .i64 p11.prot, .bool p11.dirty, .string p11.file, .int .u64 p11.off, .string (strOfNums p11.b)]), AnyB, AnyB]) (JA [11, 12] [11] (PBx W7 #[.int .u64 p11.a, .int .i64 p11.prot, .bool p11.dirty, .string p11.file, .int .u64 p11.off, .string (strOfNums p11.b)] 11 12 11)) ?mono7 ?hj7 (by kernel_rfl) ?start7 ?steps7 ?fin7
      case mono7 => exact factsOf_monoR (monoR_cons (Is.monoR _ _) (monoR_cons (Is.monoR _ _) (monoR_cons (Is.monoR _ _) (monoR_cons (Is.monoR _ _) (monoR_cons (Is.monoR _ _) (monoR_cons (Is.monoR _ _) (monoR_cons (Is.monoR _ _) (monoR_cons (Is.monoR _ _) (monoR_cons (Is.monoR _ _) (monoR_cons (Is.monoR _ _) (monoR_cons (Is.monoR _ _) (monoR_cons (AnyB.monoR _) (monoR_cons (AnyB.monoR _) (monoR_nil _))))))))))))))
      case hj7 => exact JA.congr (by decide)
      case start7 =>
        refine JA.of fun L' y' h1 h2 => ?_
        exact ⟨Below.drew (Below.refl _ _), (fun h => by rw [h1 11 (by decide)] at h; cases h)⟩
      case fin7 =>
        intro y L w9 hJ hall hF hT
        have hP := hJ.out
        clear hJ hF
        obtain ⟨g11, eg11, hge, -, hblk⟩ := hP.a (hall 11 (by decide))
        have HK11 := Lib.hid (hblk (hall 12 (by decide)))
        have HBL11 := Lib.hid hP.bel
        have HGE11 := Lib.hid hge
        clear hP hall hblk hge
        rw [frFt]
        simp only [eg11, hT 0 (by decide), hT 1 (by decide), hT 2 (by decide), hT 3 (by decide), hT 4 (by decide), hT 5 (by decide), hT 6 (by decide), hT 7 (by decide), hT 8 (by decide), hT 9 (by decide), hT 10 (by decide), hT 12 (by decide), hT 13 (by decide), hT 14 (by decide), hT 15 (by decide), hT 16 (by decide), hT 17 (by decide), hT 18 (by decide), hT 19 (by decide), hT 20 (by decide), hT 21 (by decide), hT 22 (by decide), hT 23 (by decide), hT 24 (by decide), hT 25 (by decide), hT 26 (by decide), hT 27 (by decide), hT 28 (by decide), hT 29 (by decide), hT 30 (by decide), hT 31 (by decide), hT 32 (by decide), hT 33 (by decide), hT 34 (by decide), hT 35 (by decide), hT 36 (by decide), hT 37 (by decide), hT 38 (by decide), hT 39 (by decide), hT 51 (by decide), hT 52 (by decide), hT 53 (by decide), hT 54 (by decide), hT 55 (by decide), hT 56 (by decide), hT 57 (by decide), hT 58 (by decide), hT 59 (by decide), hT 60 (by decide), hT 61 (by decide), hT 62 (by decide), hT 63 (by decide), hT 64 (by decide), List.getD_cons_succ, List.getD_cons_zero]
        clear hT eg11
        obtain ⟨W8, hW8⟩ : ∃ W : World, W = w9 := ⟨_, rfl⟩
        subst hW8
        have HK10' : Hid (Blk W8 g10 #[.int .u64 p10.a, .int .i64 p10.prot, .bool p10.dirty, .string p10.file, .int .u64 p10.off, .string (strOfNums p10.b)] 66) := Lib.hid (HK10.out.later HBL11.out)
        have c10 : W8.cell? ⟨g10, 1, none⟩ = some (.int .i64 p10.prot) := HK10'.out.cell 1
        have c11 : W8.cell? ⟨g11, 1, none⟩ = some (.int .i64 p11.prot) := HK11.out.cell 1
        have HEND : Hid (Below w.heap.size w W8) := Lib.hid (HBA.out.trans ((HBL10.out.trans (HBL11.out.mono HBL10.out.size)).mono HBA.out.size))
        have hpp10 := HP10.out
        have hpp11 := HP11.out
        by_cases hq10 : p10.prot / 1 % 2 = 0
        · have HQ : Hid (Z = 41) := Lib.hid (by rw [HZ2.out]; exact if_pos (by rw [Bool.or_eq_true, beq_iff_eq, beq_iff_eq]; exact Or.inl hq10))
          go_wp2
          go_ret
          exact ⟨by rw [HQ.out]; rfl, HEND.out⟩
        · go_wp2
          all_goals go_ret
          all_goals refine ⟨?_, HEND.out⟩
          all_goals rw [HZ2.out]
          all_goals (split <;> rename_i hx hsp <;> first | rfl | (exfalso; simp at hx hsp; omega))
      case steps7 =>
        refine ⟨?_, ?_, ?_, ?_, ?_, ?_, ?_, ?_, ?_, ?_, ?_, ?_, ?_, trivial⟩
        all_goals intro L y w9 hJ hL hy0 hp0 hcl hun
        all_goals have hy := Lib.hid hy0
        all_goals have hp := Lib.hid hp0
        all_goals have HJ := Lib.hid hJ
        all_goals have HP := Lib.hid hJ.out
        all_goals have hU := Lib.hid hun
        all_goals clear hy0 hp0 hun hJ
        · have e1 : y 4 = .pointer (some ⟨w.heap.size, 0, none⟩) := hy.out 4 (by decide)
          intro K Q hK
          clear hcl hL
          have v1 := (eval_frame 65 y [] (t := 4) (by decide)).trans e1
          obtain ⟨A, hA⟩ : ∃ A, (⟨frameOf 65 y, []⟩ : Act) = A := ⟨_, rfl⟩
          rw [hA] at v1 hK ⊢
          clear hA hy hp
          simp only [Act.eval] at v1
          go_simp
          exact hK _ _ ⟨trivial, fun _ => rfl, HJ.out.pure (by decide) (by decide)⟩
        · have e1 : y 40 = .pointer (some ⟨w.heap.size, 0, none⟩) := (hp.out 0 (by decide)).2 (by decide)
          have q0 : w9.cell? ⟨w.heap.size, 0, none⟩ = some (.slice (some ⟨b, off, none⟩) n c) := (fun (_ : Nat) => HM7.out _ HP.out.bel) 0
          intro K Q hK
          clear hcl hL
          have v1 := (eval_frame 65 y [] (t := 40) (by decide)).trans e1
          obtain ⟨A, hA⟩ : ∃ A, (⟨frameOf 65 y, []⟩ : Act) = A := ⟨_, rfl⟩
          rw [hA] at v1 hK ⊢
          clear hA hy hp
          simp only [Act.eval] at v1
          go_simp
          exact hK _ _ ⟨trivial, fun _ => rfl, HJ.out.pure (by decide) (by decide)⟩
        · have e1 : y 4 = .pointer (some ⟨w.heap.size, 0, none⟩) := hy.out 4 (by decide)
          have q0 : w9.cell? ⟨w.heap.size, 0, none⟩ = some (.slice (some ⟨b, off, none⟩) n c) := (fun (_ : Nat) => HM7.out _ HP.out.bel) 0
          intro K Q hK
          clear hcl hL
          have v1 := (eval_frame 65 y [] (t := 4) (by decide)).trans e1
          obtain ⟨A, hA⟩ : ∃ A, (⟨frameOf 65 y, []⟩ : Act) = A := ⟨_, rfl⟩
          rw [hA] at v1 hK ⊢
          clear hA hy hp
          simp only [Act.eval] at v1
          go_simp
          exact hK _ _ ⟨trivial, fun _ => rfl, HJ.out.pure (by decide) (by decide)⟩
        · have e1 : y 1 = .int .u64 (x : Int) := hy.out 1 (by decide)
          intro K Q hK
          clear hcl hL
          have v1 := (eval_frame 65 y [] (t := 1) (by decide)).trans e1
          obtain ⟨A, hA⟩ : ∃ A, (⟨frameOf 65 y, []⟩ : Act) = A := ⟨_, rfl⟩
          rw [hA] at v1 hK ⊢
          clear hA hy hp
          simp only [Act.eval] at v1
          go_simp
          exact hK _ _ ⟨trivial, fun _ => rfl, HJ.out.pure (by decide) (by decide)⟩
        · have e1 : y 2 = .int .i64 8 := hy.out 2 (by decide)
          intro K Q hK
          clear hcl hL
          have v1 := (eval_frame 65 y [] (t := 2) (by decide)).trans e1
          obtain ⟨A, hA⟩ : ∃ A, (⟨frameOf 65 y, []⟩ : Act) = A := ⟨_, rfl⟩
          rw [hA] at v1 hK ⊢
          clear hA hy hp
          simp only [Act.eval] at v1
          go_simp
          exact hK _ _ ⟨trivial, fun _ => rfl, HJ.out.pure (by decide) (by decide)⟩
        · have e1 : y 44 = .int .i64 8 := (hp.out 4 (by decide)).2 (by decide)
          intro K Q hK
          clear hcl hL
          have v1 := (eval_frame 65 y [] (t := 44) (by decide)).trans e1
          obtain ⟨A, hA⟩ : ∃ A, (⟨frameOf 65 y, []⟩ : Act) = A := ⟨_, rfl⟩
          rw [hA] at v1 hK ⊢
          clear hA hy hp
          simp only [Act.eval] at v1
          go_simp
          exact hK _ _ ⟨trivial, fun _ => rfl, HJ.out.pure (by decide) (by decide)⟩
        · have e1 : y 43 = .int .u64 (x : Int) := (hp.out 3 (by decide)).2 (by decide)
          have e2 : y 45 = .int .u64 8 := (hp.out 5 (by decide)).2 (by decide)
          have hwx := HWX.out
          intro K Q hK
          clear hcl hL
          have v1 := (eval_frame 65 y [] (t := 43) (by decide)).trans e1
          have v2 := (eval_frame 65 y [] (t := 45) (by decide)).trans e2
          obtain ⟨A, hA⟩ : ∃ A, (⟨frameOf 65 y, []⟩ : Act) = A := ⟨_, rfl⟩
          rw [hA] at v1 v2 hK ⊢
          clear hA hy hp
          simp only [Act.eval] at v1 v2
          go_simp
          first | exact hK _ _ ⟨trivial, fun _ => rfl, HJ.out.pure (by decide) (by decide)⟩ | (rw [hwx]; exact hK _ _ ⟨trivial, fun _ => rfl, HJ.out.pure (by decide) (by decide)⟩)
        · have e1 : y 46 = .int .u64 ((x : Int) + 8) := (hp.out 6 (by decide)).2 (by decide)
          have hwy := HWY.out
          intro K Q hK
          clear hcl hL
          have v1 := (eval_frame 65 y [] (t := 46) (by decide)).trans e1
          obtain ⟨A, hA⟩ : ∃ A, (⟨frameOf 65 y, []⟩ : Act) = A := ⟨_, rfl⟩
          rw [hA] at v1 hK ⊢
          clear hA hy hp
          simp only [Act.eval] at v1
          go_simp
          first | exact hK _ _ ⟨trivial, fun _ => rfl, HJ.out.pure (by decide) (by decide)⟩ | (rw [hwy]; exact hK _ _ ⟨trivial, fun _ => rfl, HJ.out.pure (by decide) (by decide)⟩)
        · have e1 : y 42 = .agg #[.slice (some ⟨b, off, none⟩) n c] := (hp.out 2 (by decide)).2 (by decide)
          have e2 : y 47 = .int .u64 ((x + 7 : Nat) : Int) := (hp.out 7 (by decide)).2 (by decide)
          intro K Q hK
          clear hcl hL
          have v1 := (eval_frame 65 y [] (t := 42) (by decide)).trans e1
          have v2 := (eval_frame 65 y [] (t := 47) (by decide)).trans e2
          obtain ⟨A, hA⟩ : ∃ A, (⟨frameOf 65 y, []⟩ : Act) = A := ⟨_, rfl⟩
          rw [hA] at v1 v2 hK ⊢
          clear hA hy hp
          simp only [Act.eval] at v1 v2
          go_simp
          refine (HF7.out _ HP.out.bel).mono ?_
          rintro r w5 ⟨rfl, rfl⟩
          exact hK _ _ ⟨trivial, fun _ => rfl, JA.step fun L' y' h1 h2 h3 h4 => HP.out.alloc _ (h1 11 (by decide) (by decide)) (h1 12 (by decide) (by decide)) (h3 11 (by decide) (by decide))⟩
        · have e1 : y 41 = .slice (some ⟨b, off, none⟩) n c := (hp.out 1 (by decide)).2 (by decide)
          have e2 : y 48 = .int .i64 (i11 : Int) := (hp.out 8 (by decide)).2 (by decide)
          have hil := HI11.out
          intro K Q hK
          clear hcl hL
          have v1 := (eval_frame 65 y [] (t := 41) (by decide)).trans e1
          have v2 := (eval_frame 65 y [] (t := 48) (by decide)).trans e2
          obtain ⟨A, hA⟩ : ∃ A, (⟨frameOf 65 y, []⟩ : Act) = A := ⟨_, rfl⟩
          rw [hA] at v1 v2 hK ⊢
          clear hA hy hp
          simp only [Act.eval] at v1 v2
          go_simp
          first | exact hK _ _ ⟨trivial, fun _ => rfl, HJ.out.pure (by decide) (by decide)⟩ | (rw [if_pos ⟨by omega, by omega⟩]; exact hK _ _ ⟨trivial, fun _ => rfl, HJ.out.pure (by decide) (by decide)⟩)
        · have e1 : y 49 = .pointer (some ⟨b, off + i11 * 6, none⟩) := (hp.out 9 (by decide)).2 (by decide)
          obtain ⟨c0, c1, c2, c3, c4, c5⟩ := HA11.out _ HP.out.bel
          intro K Q hK
          clear hcl hL
          have v1 := (eval_frame 65 y [] (t := 49) (by decide)).trans e1
          obtain ⟨A, hA⟩ : ∃ A, (⟨frameOf 65 y, []⟩ : Act) = A := ⟨_, rfl⟩
          rw [hA] at v1 hK ⊢
          clear hA hy hp
          simp only [Act.eval] at v1
          go_simp
          exact hK _ _ ⟨trivial, fun _ => rfl, HJ.out.pure (by decide) (by decide)⟩
        · have hN12 : L 12 = false := by
            cases h : L 12 with
            | false => rfl
            | true => have := (hcl 12 _ rfl h 11 (by decide)); rw [hL] at this; cases this
          intro K Q hK
          clear hcl hL
          obtain ⟨A, hA⟩ : ∃ A, (⟨frameOf 65 y, []⟩ : Act) = A := ⟨_, rfl⟩
          rw [hA] at hK ⊢
          clear hA hy hp
          go_simp
          exact hK _ _ ⟨trivial, fun _ => trivial, JA.step fun L' y' h1 h2 h3 h4 => ⟨HP.out.bel.alloc HP.out.bel.size _, fun _ => ⟨w9.heap.size, h4 (by decide), HP.out.bel.size, fun _ => Blk.new _ _ _, (fun h => by rw [h1 12 (by decide) (by decide), hN12] at h; cases h)⟩⟩⟩
        · have hL11 : L 11 = true := (hp.out 11 (by decide)).1
          obtain ⟨g, e1, hge, hz, -⟩ := HP.out.a hL11
          have e2 : y 50 = .agg #[.int .u64 p11.a, .int .i64 p11.prot, .bool p11.dirty, .string p11.file, .int .u64 p11.off, .string (strOfNums p11.b)] := (hp.out 10 (by decide)).2 (by decide)
          have hN12 : L 12 = false := hL
          obtain ⟨q0, q1, q2, q3, q4, q5⟩ := Rp.cs (hz hN12)
          obtain ⟨f0, f1, f2, f3, f4, f5⟩ := Rp.fs (hz hN12)
          have hzb := Lib.hid (hz hN12)
          have ey := e1
          intro K Q hK
          clear hcl hL
          have v1 := (eval_frame 65 y [] (t := 11) (by decide)).trans e1
          have v2 := (eval_frame 65 y [] (t := 50) (by decide)).trans e2
          obtain ⟨A, hA⟩ : ∃ A, (⟨frameOf 65 y, []⟩ : Act) = A := ⟨_, rfl⟩
          rw [hA] at v1 v2 hK ⊢
          clear hA hy hp
          simp only [Act.eval] at v1 v2
          go_simp
          exact hK undef _ ⟨trivial, fun h => absurd h (by decide), JA.step fun L' y' h1 h2 h3 h4 => PBx.stored HP.out.bel hzb.out hge ((h3 11 (by decide) (by decide)).trans ey) (h2 (by decide))⟩

    case steps6 =>
      refine ⟨?_, ?_, ?_, ?_, ?_, ?_, ?_, ?_, ?_, trivial⟩
      all_goals intro L y w9 hJ hL hy0 hp0 hcl hun
      all_goals have hy := Lib.hid hy0
      all_goals have hp := Lib.hid hp0
      all_goals have HJ := Lib.hid hJ
      all_goals have HP := Lib.hid hJ.out
      all_goals have hU := Lib.hid hun
      all_goals clear hy0 hp0 hun hJ
      · have e1 : y 4 = .pointer (some ⟨w.heap.size, 0, none⟩) := hy.out 4 (by decide)
        intro K Q hK
        clear hcl hL
        have v1 := (eval_frame 65 y [] (t := 4) (by decide)).trans e1
        obtain ⟨A, hA⟩ : ∃ A, (⟨frameOf 65 y, []⟩ : Act) = A := ⟨_, rfl⟩
        rw [hA] at v1 hK ⊢
        clear hA hy hp
        simp only [Act.eval] at v1
        go_simp
        exact hK _ _ ⟨trivial, fun _ => rfl, HJ.out.pure (by decide) (by decide)⟩
      · have e1 : y 33 = .pointer (some ⟨w.heap.size, 0, none⟩) := (hp.out 0 (by decide)).2 (by decide)
        have q0 : w9.cell? ⟨w.heap.size, 0, none⟩ = some (.slice (some ⟨b, off, none⟩) n c) := (fun (_ : Nat) => HM6.out _ HP.out.bel) 0
        intro K Q hK
        clear hcl hL
        have v1 := (eval_frame 65 y [] (t := 33) (by decide)).trans e1
        obtain ⟨A, hA⟩ : ∃ A, (⟨frameOf 65 y, []⟩ : Act) = A := ⟨_, rfl⟩
        rw [hA] at v1 hK ⊢
        clear hA hy hp
        simp only [Act.eval] at v1
        go_simp
        exact hK _ _ ⟨trivial, fun _ => rfl, HJ.out.pure (by decide) (by decide)⟩
      · have e1 : y 4 = .pointer (some ⟨w.heap.size, 0, none⟩) := hy.out 4 (by decide)
        have q0 : w9.cell? ⟨w.heap.size, 0, none⟩ = some (.slice (some ⟨b, off, none⟩) n c) := (fun (_ : Nat) => HM6.out _ HP.out.bel) 0
        intro K Q hK
        clear hcl hL
        have v1 := (eval_frame 65 y [] (t := 4) (by decide)).trans e1
        obtain ⟨A, hA⟩ : ∃ A, (⟨frameOf 65 y, []⟩ : Act) = A := ⟨_, rfl⟩
        rw [hA] at v1 hK ⊢
        clear hA hy hp
        simp only [Act.eval] at v1
        go_simp
        exact hK _ _ ⟨trivial, fun _ => rfl, HJ.out.pure (by decide) (by decide)⟩
      · have e1 : y 1 = .int .u64 (x : Int) := hy.out 1 (by decide)
        intro K Q hK
        clear hcl hL
        have v1 := (eval_frame 65 y [] (t := 1) (by decide)).trans e1
        obtain ⟨A, hA⟩ : ∃ A, (⟨frameOf 65 y, []⟩ : Act) = A := ⟨_, rfl⟩
        rw [hA] at v1 hK ⊢
        clear hA hy hp
        simp only [Act.eval] at v1
        go_simp
        exact hK _ _ ⟨trivial, fun _ => rfl, HJ.out.pure (by decide) (by decide)⟩
      · have e1 : y 35 = .agg #[.slice (some ⟨b, off, none⟩) n c] := (hp.out 2 (by decide)).2 (by decide)
        have e2 : y 36 = .int .u64 (x : Int) := (hp.out 3 (by decide)).2 (by decide)
        intro K Q hK
        clear hcl hL
        have v1 := (eval_frame 65 y [] (t := 35) (by decide)).trans e1
        have v2 := (eval_frame 65 y [] (t := 36) (by decide)).trans e2
        obtain ⟨A, hA⟩ : ∃ A, (⟨frameOf 65 y, []⟩ : Act) = A := ⟨_, rfl⟩
        rw [hA] at v1 v2 hK ⊢
        clear hA hy hp
        simp only [Act.eval] at v1 v2
        go_simp
        refine (HF6.out _ HP.out.bel).mono ?_
        rintro r w5 ⟨rfl, rfl⟩
        exact hK _ _ ⟨trivial, fun _ => rfl, JA.step fun L' y' h1 h2 h3 h4 => HP.out.alloc _ (h1 7 (by decide) (by decide)) (h1 8 (by decide) (by decide)) (h3 10 (by decide) (by decide))⟩
      · have e1 : y 34 = .slice (some ⟨b, off, none⟩) n c := (hp.out 1 (by decide)).2 (by decide)
        have e2 : y 37 = .int .i64 (i10 : Int) := (hp.out 4 (by decide)).2 (by decide)
        have hil := HI10.out
        intro K Q hK
        clear hcl hL
        have v1 := (eval_frame 65 y [] (t := 34) (by decide)).trans e1
        have v2 := (eval_frame 65 y [] (t := 37) (by decide)).trans e2
        obtain ⟨A, hA⟩ : ∃ A, (⟨frameOf 65 y, []⟩ : Act) = A := ⟨_, rfl⟩
        rw [hA] at v1 v2 hK ⊢
        clear hA hy hp
        simp only [Act.eval] at v1 v2
        go_simp
        first | exact hK _ _ ⟨trivial, fun _ => rfl, HJ.out.pure (by decide) (by decide)⟩ | (rw [if_pos ⟨by omega, by omega⟩]; exact hK _ _ ⟨trivial, fun _ => rfl, HJ.out.pure (by decide) (by decide)⟩)
      · have e1 : y 38 = .pointer (some ⟨b, off + i10 * 6, none⟩) := (hp.out 5 (by decide)).2 (by decide)
        obtain ⟨c0, c1, c2, c3, c4, c5⟩ := HA10.out _ HP.out.bel
        intro K Q hK
        clear hcl hL
        have v1 := (eval_frame 65 y [] (t := 38) (by decide)).trans e1
        obtain ⟨A, hA⟩ : ∃ A, (⟨frameOf 65 y, []⟩ : Act) = A := ⟨_, rfl⟩
        rw [hA] at v1 hK ⊢
        clear hA hy hp
        simp only [Act.eval] at v1
        go_simp
        exact hK _ _ ⟨trivial, fun _ => rfl, HJ.out.pure (by decide) (by decide)⟩
      · have hN8 : L 8 = false := by
          cases h : L 8 with
          | false => rfl
          | true => have := (hcl 8 _ rfl h 7 (by decide)); rw [hL] at this; cases this
        intro K Q hK
        clear hcl hL
        obtain ⟨A, hA⟩ : ∃ A, (⟨frameOf 65 y, []⟩ : Act) = A := ⟨_, rfl⟩
        rw [hA] at hK ⊢
        clear hA hy hp
        go_simp
        exact hK _ _ ⟨trivial, fun _ => trivial, JA.step fun L' y' h1 h2 h3 h4 => ⟨HP.out.bel.alloc HP.out.bel.size _, fun _ => ⟨w9.heap.size, h4 (by decide), HP.out.bel.size, fun _ => Blk.new _ _ _, (fun h => by rw [h1 8 (by decide) (by decide), hN8] at h; cases h)⟩⟩⟩
      · have hL7 : L 7 = true := (hp.out 7 (by decide)).1
        obtain ⟨g, e1, hge, hz, -⟩ := HP.out.a hL7
        have e2 : y 39 = .agg #[.int .u64 p10.a, .int .i64 p10.prot, .bool p10.dirty, .string p10.file, .int .u64 p10.off, .string (strOfNums p10.b)] := (hp.out 6 (by decide)).2 (by decide)
        have hN8 : L 8 = false := hL
        obtain ⟨q0, q1, q2, q3, q4, q5⟩ := Rp.cs (hz hN8)
        obtain ⟨f0, f1, f2, f3, f4, f5⟩ := Rp.fs (hz hN8)
        have hzb := Lib.hid (hz hN8)
        have ey := e1
        intro K Q hK
        clear hcl hL
        have v1 := (eval_frame 65 y [] (t := 10) (by decide)).trans e1
        have v2 := (eval_frame 65 y [] (t := 39) (by decide)).trans e2
        obtain ⟨A, hA⟩ : ∃ A, (⟨frameOf 65 y, []⟩ : Act) = A := ⟨_, rfl⟩
        rw [hA] at v1 v2 hK ⊢
        clear hA hy hp
        simp only [Act.eval] at v1 v2
        go_simp
        exact hK undef _ ⟨trivial, fun h => absurd h (by decide), JA.step fun L' y' h1 h2 h3 h4 => PBx.stored HP.out.bel hzb.out hge ((h3 10 (by decide) (by decide)).trans ey) (h2 (by decide))⟩

theorem fits4_ok {w : World} {B : Nat} {a : Option Addr} {n c : Nat} {M : List Pg} (h : RAt w B a n c M) (hB : B ≤ w.heap.size) (x : Nat) (x1 : x ≤ 18446744073709551615) (N : Nat) (hw : isW (N : Int)) :
    Calls Try.prog 43 #[mv a n c, .int .u64 x, .int .i64 N, .int .i64 4] w fun e w' => e = .returned (.int .i64 (fitsZ M x N 4)) ∧ Below w.heap.size w w' := by
  have hN : N = 1 ∨ N = 2 ∨ N = 4 ∨ N = 8 := by unfold isW at hw; omega
  rcases hN with rfl | rfl | rfl | rfl
  · exact fits4_1 h hB x x1
  · exact fits4_2 h hB x x1
  · exact fits4_4 h hB x x1
  · exact fits4_8 h hB x x1
theorem fits2_ok {w : World} {B : Nat} {a : Option Addr} {n c : Nat} {M : List Pg} (h : RAt w B a n c M) (hB : B ≤ w.heap.size) (x : Nat) (x1 : x ≤ 18446744073709551615) (N : Nat) (hw : isW (N : Int)) :
    Calls Try.prog 43 #[mv a n c, .int .u64 x, .int .i64 N, .int .i64 2] w fun e w' => e = .returned (.int .i64 (fitsZ M x N 2)) ∧ Below w.heap.size w w' := by
  have hN : N = 1 ∨ N = 2 ∨ N = 4 ∨ N = 8 := by unfold isW at hw; omega
  rcases hN with rfl | rfl | rfl | rfl
  · exact fits2_1 h hB x x1
  · exact fits2_2 h hB x x1
  · exact fits2_4 h hB x x1
  · exact fits2_8 h hB x x1
end Go.Proofs.Ytahjgbmhleiocaa
namespace Go.Proofs.Ytahjgbmhleiocaa
open Go.RowKit Go.WideMaps Go.Maps
set_option linter.unusedVariables false
set_option linter.unusedSimpArgs false

theorem idx_str {s : ByteArray} {zs : List Int} (hs : bs s = zs) {i : Nat} (h : i < zs.length) (w : World) : (Instr.index 9 (.string s) (.int .u64 i)).run Try.prog w = .ok (.int .u8 (zs.getD i 0)) w := by
  have hl : i < s.size := by rw [← bs_len, hs]; exact h
  rw [run_index_string w _ s .u64 i Try.underlying9, dif_pos ⟨by omega, by omega⟩, ← hs, bs_getElem hl]
  rfl
theorem frPk (y : Nat → Value) : frameOf 42 y = #[y 0, y 1, y 2, y 3, y 4, y 5, y 6, y 7, y 8, y 9, y 10, y 11, y 12, y 13, y 14, y 15, y 16, y 17, y 18, y 19, y 20, y 21, y 22, y 23, y 24, y 25, y 26, y 27, y 28, y 29, y 30, y 31, y 32, y 33, y 34, y 35, y 36, y 37, y 38, y 39, y 40, y 41] := rfl
/-- The worlds of Peek's region, one behind the other. -/
structure PPe (wr W0 W1 W2 W3 : World) (L : Nat → Bool) (w9 : World) : Prop where
  bel : L 13 = false → Below wr.heap.size wr w9
  a : L 5 = false → w9 = W0
  b : L 5 = true → L 12 = false → w9 = W1
  c : L 12 = true → L 13 = false → w9 = W2
  d : L 13 = true → w9 = W3
set_option maxHeartbeats 12800000 in
set_option maxRecDepth 100000 in
theorem rpeek_ok {w : World} {B : Nat} {a : Option Addr} {n c : Nat} {M : List Pg} (h : RAt w B a n c M) (hB : B ≤ w.heap.size) (x sz : Nat) {L : List Pt} (hL : spanP M x sz = some L) (s0 : 0 < sz) (s1 : sz ≤ 262144) :
    Calls Try.prog 54 #[mv a n c, .int .u64 x, .int .u64 sz] w fun e w' => ∃ v, e = .returned (.tuple #[v, .int .i64 0]) ∧ w'.ownsRow w.heap.size 5 1 v (bytesL M L).length ((bytesL M L).map (Value.int .u8)) ∧ Below w.heap.size w w' := by
  have HH := Lib.hid h
  have HB := Lib.hid hB
  have htop := span_top h.ok hL s0
  have hlm : sz = (bytesL M L).length := by
    rw [bytesL_len h.ok L (fun p hp => (span_good sz x L hL p hp).1), span_len sz x L hL]
  have HSB := Lib.hid (span_byte h.ok sz x L hL)
  have HTH := Lib.hid (there_ok (w := w.alloc (.cells #[.slice a n c] 34)) (h.below ((Below.refl _ _).alloc hB _)) (by simp; omega) x sz (by omega) s0 s1)
  rw [hL] at HTH
  obtain ⟨ZS, hZS⟩ : ∃ ZS, bytesL M L = ZS := ⟨_, rfl⟩
  rw [hZS] at hlm HSB ⊢
  have HLM := Lib.hid hlm
  have hb1 : Below w.heap.size w (w.alloc (.cells #[.slice a n c] 34)) := (Below.refl _ _).alloc (Nat.le_refl _) _
  have HB1 := Lib.hid hb1
  have BX := Lib.hid (Blk.new w #[.slice a n c] 34)
  have hw2 : IntKind.u64.wrap ((x : Int) + (sz : Int)) = (x : Int) + (sz : Int) := by
    rw [IntKind.wrap_u64]; omega
  have hs0 : ¬ (sz : Int) = 0 := by omega
  have hs0b : ((sz : Int) == 0) = false := by simp; omega
  have HT := Lib.hid htop
  have HS1 := Lib.hid s1
  have HN : Hid (n = M.length) := Lib.hid h.len
  have hn5 : n ≤ 512 := by have := h.len; have := h.lm; omega
  unfold mv at *
  clear h hB hL hb1 hZS hlm htop s1
  go_enter Try.func54, Try.ntmps54
  go_wp2_with fail
  refine HTH.out.mono ?_
  rintro r1 w1 ⟨rfl, hb2⟩
  have HW1 : Hid (Below (w.heap.size + 1) (w.alloc (.cells #[.slice a n c] 34)) w1) := Lib.hid (by simpa using hb2)
  clear hb2 HTH
  go_wp2
  go_loopw [9, 10] (fun v d wr => ∃ k : Nat, k ≤ sz ∧ d = .int .u64 ((x : Int) + (k : Int)) ∧ Hid (wr.ownsRow (w.heap.size + 1) 5 1 v k ((ZS.take k).map (Value.int .u8))) ∧ Hid (Below (w.heap.size + 1) (w.alloc (.cells #[.slice a n c] 34)) wr)) (fun _ d _ => ((x : Int) + sz - intOf d).toNat)
  case atStart => exact ⟨0, Nat.zero_le _, by go_num, Lib.hid (World.ownsRow_nil _ _ _ _), HW1⟩
  case round =>
    obtain ⟨k, hk, rfl, HO, HBW⟩ := hrel
    obtain ⟨la, lc, rfl⟩ := own_slp HO.out
    have hbw : Below w.heap.size w wr := HB1.out.trans (HBW.out.mono (by omega))
    have HBW2 := Lib.hid hbw
    have HKM := Lib.hid (BX.out.later (by simpa using HBW.out))
    clear hbw
    by_cases hlt : k < sz
    · have hlti : (x : Int) + (k : Int) < (x : Int) + (sz : Int) := by omega
      obtain ⟨q, hq, hqb⟩ := HSB.out k hlt
      obtain ⟨i, hi, hie, hig⟩ := idx_some 0 hq
      have hqo := HH.out.ok q (findP_mem hq).1
      have hra : RAt wr B a n c M := HH.out.below (HBW2.out.mono HB.out)
      obtain ⟨b, off, rfl, hbB, hat⟩ := hra.at (k := i) (by rw [HN.out]; exact hi)
      rw [hig] at hat
      have hBr : B ≤ wr.heap.size := Nat.le_trans HB.out HBW2.out.size
      have hszw : w.heap.size + 1 ≤ wr.heap.size := by have := HBW.out.size; simpa using this
      obtain ⟨O, hO⟩ : ∃ O, (x + k) % 256 = O := ⟨_, rfl⟩
      have hO6 : O < 256 := by omega
      have hZk : ZS.getD k 0 = q.b.getD O 0 := by rw [hqb, hO]
      obtain ⟨z, hz⟩ : ∃ z, ZS.getD k 0 = z := ⟨_, rfl⟩
      obtain ⟨S5, hS5⟩ : ∃ S5, (rp q).b = S5 := ⟨_, rfl⟩
      have HIX : Hid (∀ wx, (Instr.index 9 (.string S5) (.int .u64 (O : Int))).run Try.prog wx = .ok (.int .u8 z) wx) := Lib.hid (fun wx => by
        rw [← hS5, idx_str (rp_bs hqo) (i := O) (by rw [hqo.len]; exact hO6) wx, ← hZk, hz])
      have HSZ : Hid (S5.size = 256) := Lib.hid (by rw [← hS5]; exact rp_size hqo)
      have HOI : Hid (((x : Int) + (k : Int)).tmod 256 = (O : Int)) := Lib.hid (by rw [Int.tmod_eq_emod_of_nonneg (by omega)]; omega)
      have HO6 := Lib.hid hO6
      have HM6 : Hid (∀ wx, Below wr.heap.size wr wx → wx.cell? ⟨w.heap.size, 0, none⟩ = some (.slice (some ⟨b, off, none⟩) n c)) := Lib.hid (fun wx hb => (HKM.out.later hb).cell 0)
      have HQ5 : Hid (∀ wx, Below wr.heap.size wr wx → wx.cell? ⟨b, off + i * 6 + 5, none⟩ = some (.string S5)) := Lib.hid (fun wx hb => by
        have := (hat.below hb (Nat.lt_of_lt_of_le hbB hBr)).c5
        rw [hS5] at this
        exact this)
      have HIN : Hid ((i : Int) < n) := Lib.hid (by have := HN.out; omega)
      obtain ⟨W0, hW0⟩ : ∃ W0, wr.drew = W0 := ⟨_, rfl⟩
      have hh0 : W0.heap = wr.heap := by rw [← hW0]; rfl
      have hb0 : Below wr.heap.size wr W0 := by rw [← hW0]; exact (Below.refl _ _).drew
      obtain ⟨W1, hW1⟩ : ∃ W1, W1 = W0.alloc (.cells #[.slice (some ⟨b, off, none⟩) n c] 34) := ⟨_, rfl⟩
      have hb1 : Below wr.heap.size wr W1 := by rw [hW1]; exact hb0.alloc hb0.size _
      obtain ⟨W2, hW2⟩ : ∃ W2, W2 = W1.alloc (.cells #[.int .u8 z] 5) := ⟨_, rfl⟩
      have hb2 : Below wr.heap.size wr W2 := by rw [hW2]; exact hb1.alloc hb1.size _
      have HFD : Hid (Calls Try.prog 53 #[.agg #[.slice (some ⟨b, off, none⟩) n c], .int .u64 ((x : Int) + (k : Int))] W0 fun e w' => e = .returned (.int .i64 (i : Int)) ∧ w' = W1) := Lib.hid (by
        have h1 := rfind_ok (hra.below (hb0.mono hBr)) (Nat.le_trans hBr hb0.size) (x + k) (by have := HT.out; omega)
        rw [hie, show (0 : Int) + (i : Int) = (i : Int) by omega, show ((x + k : Nat) : Int) = (x : Int) + (k : Int) by omega] at h1
        rw [hW1]
        exact h1)
      have ho2 : W2.ownsRow (w.heap.size + 1) 5 1 (.slice la k lc) k ((ZS.take k).map (Value.int .u8)) := by
        rw [hW2, hW1]
        exact World.ownsRow.alloc (World.ownsRow.alloc (own_heap hh0 HO.out) _) _
      have hsn : ZS.take (k + 1) = ZS.take k ++ [z] := by
        rw [← hz, List.take_succ_eq_append_getElem (by rw [← HLM.out]; exact hlt), List.getD_eq_getElem?_getD, List.getElem?_eq_getElem (by rw [← HLM.out]; exact hlt)]; rfl
      obtain ⟨i0, ji, jz0, jz1, jz2⟩ := info_parts info_u8
      obtain ⟨v', W3, hrun, hown2, hg2, -⟩ := run_append_own (P := Try.prog) W2 (w.heap.size + 1) 25 25 5 i0 _ 1 1 Try.underlying25 ji jz0 jz1 jz2 rfl (by decide) _ k _ ho2 ⟨W1.heap.size, 0, none⟩ 1 1 [.int .u8 z] rfl (by rw [hW2]; exact rp_new W1 _ _) (fun u hu => by simp at hu; subst hu; rfl) (by unfold maxLen; have := HS1.out; omega) (by have := HS1.out; omega) (by have := hb2.size; omega)
      obtain ⟨va2, vc2, rfl⟩ := own_slp hown2
      have HO2 : Hid (W3.ownsRow (w.heap.size + 1) 5 1 (.slice va2 (k + 1) vc2) (k + 1) ((ZS.take (k + 1)).map (Value.int .u8))) := Lib.hid (by rw [hsn, List.map_append]; exact hown2)
      have HB3 : Hid (Below (w.heap.size + 1) (w.alloc (.cells #[.slice (some ⟨b, off, none⟩) n c] 34)) W3) := Lib.hid (HBW.out.trans ((hb2.mono hszw).grown hg2 (Nat.le_trans hszw hb2.size) (fun q e => (ho2.lt q e).1)))
      have HRUN := Lib.hid hrun
      have HW1 := Lib.hid hW1
      have HW2 := Lib.hid hW2
      have HW0 := Lib.hid hW0
      have HB0 := Lib.hid hb0
      have HB1' := Lib.hid hb1
      have HB2 := Lib.hid hb2
      have HLT := Lib.hid hlt
      have HWD : Hid (IntKind.u64.wrap ((x : Int) + (k : Int) + 1) = (x : Int) + ((k + 1 : Nat) : Int)) := Lib.hid (by rw [IntKind.wrap_u64]; have := HT.out; omega)
      clear hq hqb hi hie hig hqo hra hbB hat hBr hszw hO hO6 hZk hz hS5 hh0 hb0 hb1 hb2 ho2 hsn ji jz0 jz1 jz2 hrun hown2 hg2 hW0 hW1 hW2 hlt hk
      go_wp2_with fail
      refine wp_region_a (by kernel_rfl) 42 rfl [27, 28, 29, 30, 31, 32, 33, 34, 35, 36, 37, 38, 39, 40, 9] (fun _ _ => True) (factsOf [Is (.slice la k lc), Is (.pointer (some ⟨w.heap.size, 0, none⟩)), Is (.slice (some ⟨b, off, none⟩) n c), Is (.agg #[.slice (some ⟨b, off, none⟩) n c]), Is (.int .u64 ((x : Int) + (k : Int))), Is (.int .i64 (i : Int)), Is (.pointer (some ⟨b, off + i * 6, none⟩)), Is (.pointer (some ⟨b, off + i * 6 + 5, none⟩)), Is (.string S5), Is (.int .u64 ((x : Int) + (k : Int))), Is (.int .u64 (O : Int)), Is (.int .u8 z), Is (.slice (some ⟨W1.heap.size, 0, none⟩) 1 1), Is (.slice va2 (k + 1) vc2), Is (.slice va2 (k + 1) vc2)]) (JA [5, 12, 13] [] (fun L _ w9 => PPe wr W0 W1 W2 W3 L w9)) ?mono10 ?hj10 (by kernel_rfl) ?start10 ?steps10 ?fin10
      case mono10 => exact factsOf_monoR (monoR_cons (Is.monoR _ _) (monoR_cons (Is.monoR _ _) (monoR_cons (Is.monoR _ _) (monoR_cons (Is.monoR _ _) (monoR_cons (Is.monoR _ _) (monoR_cons (Is.monoR _ _) (monoR_cons (Is.monoR _ _) (monoR_cons (Is.monoR _ _) (monoR_cons (Is.monoR _ _) (monoR_cons (Is.monoR _ _) (monoR_cons (Is.monoR _ _) (monoR_cons (Is.monoR _ _) (monoR_cons (Is.monoR _ _) (monoR_cons (Is.monoR _ _) (monoR_cons (Is.monoR _ _) (monoR_nil _))))))))))))))))
      case hj10 => exact JA.congr (by decide)
      case start10 =>
        refine JA.of fun L' y' h1 h2 => ?_
        rw [HW0.out]
        exact ⟨fun _ => HB0.out, fun _ => rfl, (fun h => by rw [h1 5 (by decide)] at h; cases h), (fun h => by rw [h1 12 (by decide)] at h; cases h), (fun h => by rw [h1 13 (by decide)] at h; cases h)⟩
      case fin10 =>
        intro y L w9 hJ hall hF hT
        have hP := hJ.out
        have f9 : y 9 = .slice va2 (k + 1) vc2 := hF 14 (by decide) (by decide)
        clear hJ hF
        obtain rfl := hP.d (hall 13 (by decide))
        clear hP hall
        rw [frPk]
        simp only [f9, hT 0 (by decide), hT 1 (by decide), hT 2 (by decide), hT 3 (by decide), hT 4 (by decide), hT 5 (by decide), hT 6 (by decide), hT 7 (by decide), hT 8 (by decide), hT 10 (by decide), hT 11 (by decide), hT 12 (by decide), hT 13 (by decide), hT 14 (by decide), hT 15 (by decide), hT 16 (by decide), hT 17 (by decide), hT 18 (by decide), hT 19 (by decide), hT 20 (by decide), hT 21 (by decide), hT 22 (by decide), hT 23 (by decide), hT 24 (by decide), hT 25 (by decide), hT 26 (by decide), hT 41 (by decide), List.getD_cons_succ, List.getD_cons_zero]
        clear hT f9
        have hwd := HWD.out
        go_wp2
        go_roundw
        case rel => exact ⟨k + 1, HLT.out, by go_num, HO2, HB3⟩
        case measure => have := HLT.out; simp [intOf]; omega
      case steps10 =>
        refine ⟨?_, ?_, ?_, ?_, ?_, ?_, ?_, ?_, ?_, ?_, ?_, ?_, ?_, ?_, ?_, trivial⟩
        all_goals intro L y w9 hJ hL hy0 hp0 hcl hun
        all_goals have hy := Lib.hid hy0
        all_goals have hp := Lib.hid hp0
        all_goals have HJ := Lib.hid hJ
        all_goals have HP := Lib.hid hJ.out
        all_goals have hU := Lib.hid hun
        all_goals clear hy0 hp0 hun hJ
        · have hN14 : L 14 = false := by
            cases h : L 14 with
            | false => rfl
            | true => have := (hcl 13 _ rfl (hcl 14 _ rfl h 13 (by decide)) 0 (by decide)); rw [hL] at this; cases this
          have e1 : y 9 = .slice la k lc := hU.out 14 (by decide) hN14 (by decide)
          intro K Q hK
          clear hcl hL
          have v1 := (eval_frame 42 y [] (t := 9) (by decide)).trans e1
          obtain ⟨A, hA⟩ : ∃ A, (⟨frameOf 42 y, []⟩ : Act) = A := ⟨_, rfl⟩
          rw [hA] at v1 hK ⊢
          clear hA hy hp
          simp only [Act.eval] at v1
          go_simp
          exact hK _ _ ⟨trivial, fun _ => rfl, HJ.out.pure (by decide) (by decide)⟩
        · have e1 : y 3 = .pointer (some ⟨w.heap.size, 0, none⟩) := hy.out 3 (by decide)
          intro K Q hK
          clear hcl hL
          have v1 := (eval_frame 42 y [] (t := 3) (by decide)).trans e1
          obtain ⟨A, hA⟩ : ∃ A, (⟨frameOf 42 y, []⟩ : Act) = A := ⟨_, rfl⟩
          rw [hA] at v1 hK ⊢
          clear hA hy hp
          simp only [Act.eval] at v1
          go_simp
          exact hK _ _ ⟨trivial, fun _ => rfl, HJ.out.pure (by decide) (by decide)⟩
        · have e1 : y 28 = .pointer (some ⟨w.heap.size, 0, none⟩) := (hp.out 1 (by decide)).2 (by decide)
          have hN13 : L 13 = false := by
            cases h : L 13 with
            | false => rfl
            | true => have := (hcl 6 _ rfl (hcl 7 _ rfl (hcl 8 _ rfl (hcl 11 _ rfl (hcl 12 _ rfl (hcl 13 _ rfl h 12 (by decide)) 11 (by decide)) 8 (by decide)) 7 (by decide)) 6 (by decide)) 2 (by decide)); rw [hL] at this; cases this
          have q0 : w9.cell? ⟨w.heap.size, 0, none⟩ = some (.slice (some ⟨b, off, none⟩) n c) := (fun (_ : Nat) => HM6.out _ (HP.out.bel hN13)) 0
          intro K Q hK
          clear hcl hL
          have v1 := (eval_frame 42 y [] (t := 28) (by decide)).trans e1
          obtain ⟨A, hA⟩ : ∃ A, (⟨frameOf 42 y, []⟩ : Act) = A := ⟨_, rfl⟩
          rw [hA] at v1 hK ⊢
          clear hA hy hp
          simp only [Act.eval] at v1
          go_simp
          exact hK _ _ ⟨trivial, fun _ => rfl, HJ.out.pure (by decide) (by decide)⟩
        · have e1 : y 3 = .pointer (some ⟨w.heap.size, 0, none⟩) := hy.out 3 (by decide)
          have hN13 : L 13 = false := by
            cases h : L 13 with
            | false => rfl
            | true => have := (hcl 5 _ rfl (hcl 6 _ rfl (hcl 7 _ rfl (hcl 8 _ rfl (hcl 11 _ rfl (hcl 12 _ rfl (hcl 13 _ rfl h 12 (by decide)) 11 (by decide)) 8 (by decide)) 7 (by decide)) 6 (by decide)) 5 (by decide)) 3 (by decide)); rw [hL] at this; cases this
          have q0 : w9.cell? ⟨w.heap.size, 0, none⟩ = some (.slice (some ⟨b, off, none⟩) n c) := (fun (_ : Nat) => HM6.out _ (HP.out.bel hN13)) 0
          intro K Q hK
          clear hcl hL
          have v1 := (eval_frame 42 y [] (t := 3) (by decide)).trans e1
          obtain ⟨A, hA⟩ : ∃ A, (⟨frameOf 42 y, []⟩ : Act) = A := ⟨_, rfl⟩
          rw [hA] at v1 hK ⊢
          clear hA hy hp
          simp only [Act.eval] at v1
          go_simp
          exact hK _ _ ⟨trivial, fun _ => rfl, HJ.out.pure (by decide) (by decide)⟩
        · have e1 : y 10 = .int .u64 ((x : Int) + (k : Int)) := hy.out 10 (by decide)
          intro K Q hK
          clear hcl hL
          have v1 := (eval_frame 42 y [] (t := 10) (by decide)).trans e1
          obtain ⟨A, hA⟩ : ∃ A, (⟨frameOf 42 y, []⟩ : Act) = A := ⟨_, rfl⟩
          rw [hA] at v1 hK ⊢
          clear hA hy hp
          simp only [Act.eval] at v1
          go_simp
          exact hK _ _ ⟨trivial, fun _ => rfl, HJ.out.pure (by decide) (by decide)⟩
        · have e1 : y 30 = .agg #[.slice (some ⟨b, off, none⟩) n c] := (hp.out 3 (by decide)).2 (by decide)
          have e2 : y 31 = .int .u64 ((x : Int) + (k : Int)) := (hp.out 4 (by decide)).2 (by decide)
          have hN5 : L 5 = false := hL
          have hN12 : L 12 = false := by
            cases h : L 12 with
            | false => rfl
            | true => have := (hcl 6 _ rfl (hcl 7 _ rfl (hcl 8 _ rfl (hcl 11 _ rfl (hcl 12 _ rfl h 11 (by decide)) 8 (by decide)) 7 (by decide)) 6 (by decide)) 5 (by decide)); rw [hL] at this; cases this
          have hN13 : L 13 = false := by
            cases h : L 13 with
            | false => rfl
            | true => have := (hcl 6 _ rfl (hcl 7 _ rfl (hcl 8 _ rfl (hcl 11 _ rfl (hcl 12 _ rfl (hcl 13 _ rfl h 12 (by decide)) 11 (by decide)) 8 (by decide)) 7 (by decide)) 6 (by decide)) 5 (by decide)); rw [hL] at this; cases this
          obtain rfl := HP.out.a hN5
          intro K Q hK
          clear hcl hL
          have v1 := (eval_frame 42 y [] (t := 30) (by decide)).trans e1
          have v2 := (eval_frame 42 y [] (t := 31) (by decide)).trans e2
          obtain ⟨A, hA⟩ : ∃ A, (⟨frameOf 42 y, []⟩ : Act) = A := ⟨_, rfl⟩
          rw [hA] at v1 v2 hK ⊢
          clear hA hy hp
          simp only [Act.eval] at v1 v2
          go_simp
          refine HFD.out.mono ?_
          rintro r w5 ⟨rfl, rfl⟩
          exact hK _ _ ⟨trivial, fun _ => rfl, JA.step fun L' y' h1 h2 h3 h4 => ⟨fun _ => HB1'.out, (fun h => by rw [h2 (by decide)] at h; cases h), fun _ _ => rfl, (fun h => by rw [h1 12 (by decide) (by decide), hN12] at h; cases h), (fun h => by rw [h1 13 (by decide) (by decide), hN13] at h; cases h)⟩⟩
        · have e1 : y 29 = .slice (some ⟨b, off, none⟩) n c := (hp.out 2 (by decide)).2 (by decide)
          have e2 : y 32 = .int .i64 (i : Int) := (hp.out 5 (by decide)).2 (by decide)
          have hil := HIN.out
          intro K Q hK
          clear hcl hL
          have v1 := (eval_frame 42 y [] (t := 29) (by decide)).trans e1
          have v2 := (eval_frame 42 y [] (t := 32) (by decide)).trans e2
          obtain ⟨A, hA⟩ : ∃ A, (⟨frameOf 42 y, []⟩ : Act) = A := ⟨_, rfl⟩
          rw [hA] at v1 v2 hK ⊢
          clear hA hy hp
          simp only [Act.eval] at v1 v2
          go_simp
          first | exact hK _ _ ⟨trivial, fun _ => rfl, HJ.out.pure (by decide) (by decide)⟩ | (rw [if_pos ⟨by omega, by omega⟩]; exact hK _ _ ⟨trivial, fun _ => rfl, HJ.out.pure (by decide) (by decide)⟩)
        · have e1 : y 33 = .pointer (some ⟨b, off + i * 6, none⟩) := (hp.out 6 (by decide)).2 (by decide)
          intro K Q hK
          clear hcl hL
          have v1 := (eval_frame 42 y [] (t := 33) (by decide)).trans e1
          obtain ⟨A, hA⟩ : ∃ A, (⟨frameOf 42 y, []⟩ : Act) = A := ⟨_, rfl⟩
          rw [hA] at v1 hK ⊢
          clear hA hy hp
          simp only [Act.eval] at v1
          go_simp
          exact hK _ _ ⟨trivial, fun _ => rfl, HJ.out.pure (by decide) (by decide)⟩
        · have e1 : y 34 = .pointer (some ⟨b, off + i * 6 + 5, none⟩) := (hp.out 7 (by decide)).2 (by decide)
          have hN13 : L 13 = false := by
            cases h : L 13 with
            | false => rfl
            | true => have := (hcl 11 _ rfl (hcl 12 _ rfl (hcl 13 _ rfl h 12 (by decide)) 11 (by decide)) 8 (by decide)); rw [hL] at this; cases this
          have q5 := HQ5.out _ (HP.out.bel hN13)
          intro K Q hK
          clear hcl hL
          have v1 := (eval_frame 42 y [] (t := 34) (by decide)).trans e1
          obtain ⟨A, hA⟩ : ∃ A, (⟨frameOf 42 y, []⟩ : Act) = A := ⟨_, rfl⟩
          rw [hA] at v1 hK ⊢
          clear hA hy hp
          simp only [Act.eval] at v1
          go_simp
          exact hK _ _ ⟨trivial, fun _ => rfl, HJ.out.pure (by decide) (by decide)⟩
        · have e1 : y 10 = .int .u64 ((x : Int) + (k : Int)) := hy.out 10 (by decide)
          intro K Q hK
          clear hcl hL
          have v1 := (eval_frame 42 y [] (t := 10) (by decide)).trans e1
          obtain ⟨A, hA⟩ : ∃ A, (⟨frameOf 42 y, []⟩ : Act) = A := ⟨_, rfl⟩
          rw [hA] at v1 hK ⊢
          clear hA hy hp
          simp only [Act.eval] at v1
          go_simp
          exact hK _ _ ⟨trivial, fun _ => rfl, HJ.out.pure (by decide) (by decide)⟩
        · have e1 : y 36 = .int .u64 ((x : Int) + (k : Int)) := (hp.out 9 (by decide)).2 (by decide)
          have hoi := HOI.out
          intro K Q hK
          clear hcl hL
          have v1 := (eval_frame 42 y [] (t := 36) (by decide)).trans e1
          obtain ⟨A, hA⟩ : ∃ A, (⟨frameOf 42 y, []⟩ : Act) = A := ⟨_, rfl⟩
          rw [hA] at v1 hK ⊢
          clear hA hy hp
          simp only [Act.eval] at v1
          go_simp
          first | exact hK _ _ ⟨trivial, fun _ => rfl, HJ.out.pure (by decide) (by decide)⟩ | (rw [hoi]; exact hK _ _ ⟨trivial, fun _ => rfl, HJ.out.pure (by decide) (by decide)⟩)
        · have e1 : y 35 = .string S5 := (hp.out 8 (by decide)).2 (by decide)
          have e2 : y 37 = .int .u64 (O : Int) := (hp.out 10 (by decide)).2 (by decide)
          have hix := HIX.out w9
          intro K Q hK
          clear hcl hL
          have v1 := (eval_frame 42 y [] (t := 35) (by decide)).trans e1
          have v2 := (eval_frame 42 y [] (t := 37) (by decide)).trans e2
          obtain ⟨A, hA⟩ : ∃ A, (⟨frameOf 42 y, []⟩ : Act) = A := ⟨_, rfl⟩
          rw [hA] at v1 v2 hK ⊢
          clear hA hy hp
          simp only [Act.eval] at v1 v2
          go_simp
          first | exact hK _ _ ⟨trivial, fun _ => rfl, HJ.out.pure (by decide) (by decide)⟩ | (trace_state; exact hK _ _ ⟨trivial, fun _ => rfl, HJ.out.pure (by decide) (by decide)⟩)
        · have e1 : y 38 = .int .u8 z := (hp.out 11 (by decide)).2 (by decide)
          have hN12 : L 12 = false := hL
          have hN13 : L 13 = false := by
            cases h : L 13 with
            | false => rfl
            | true => have := (hcl 13 _ rfl h 12 (by decide)); rw [hL] at this; cases this
          have hL11 : L 11 = true := (hp.out 11 (by decide)).1
          have hL8 : L 8 = true := hcl 11 _ rfl hL11 8 (by decide)
          have hL7 : L 7 = true := hcl 8 _ rfl hL8 7 (by decide)
          have hL6 : L 6 = true := hcl 7 _ rfl hL7 6 (by decide)
          have hL5 : L 5 = true := hcl 6 _ rfl hL6 5 (by decide)
          obtain rfl := HP.out.b hL5 hN12
          intro K Q hK
          clear hcl hL
          have v1 := (eval_frame 42 y [] (t := 38) (by decide)).trans e1
          obtain ⟨A, hA⟩ : ∃ A, (⟨frameOf 42 y, []⟩ : Act) = A := ⟨_, rfl⟩
          rw [hA] at v1 hK ⊢
          clear hA hy hp
          simp only [Act.eval] at v1
          rw [Array.getD_eq_getD_getElem?] at v1
          go_simp
          rw [← HW2.out]
          exact hK _ _ ⟨trivial, fun _ => rfl, JA.step fun L' y' h1 h2 h3 h4 => ⟨fun _ => HB2.out, (fun h => by rw [h1 5 (by decide) (by decide), hL5] at h; cases h), (fun _ h => by rw [h2 (by decide)] at h; cases h), fun _ _ => rfl, (fun h => by rw [h1 13 (by decide) (by decide), hN13] at h; cases h)⟩⟩
        · have e1 : y 27 = .slice la k lc := (hp.out 0 (by decide)).2 (by decide)
          have e2 : y 39 = .slice (some ⟨W1.heap.size, 0, none⟩) 1 1 := (hp.out 12 (by decide)).2 (by decide)
          have hN13 : L 13 = false := hL
          have hL12 : L 12 = true := (hp.out 12 (by decide)).1
          have hL11 : L 11 = true := hcl 12 _ rfl hL12 11 (by decide)
          have hL8 : L 8 = true := hcl 11 _ rfl hL11 8 (by decide)
          have hL7 : L 7 = true := hcl 8 _ rfl hL8 7 (by decide)
          have hL6 : L 6 = true := hcl 7 _ rfl hL7 6 (by decide)
          have hL5 : L 5 = true := hcl 6 _ rfl hL6 5 (by decide)
          obtain rfl := HP.out.c hL12 hN13
          intro K Q hK
          clear hcl hL
          have v1 := (eval_frame 42 y [] (t := 27) (by decide)).trans e1
          have v2 := (eval_frame 42 y [] (t := 39) (by decide)).trans e2
          obtain ⟨A, hA⟩ : ∃ A, (⟨frameOf 42 y, []⟩ : Act) = A := ⟨_, rfl⟩
          rw [hA] at v1 v2 hK ⊢
          clear hA hy hp
          exact step_append 25 (.tmp 27) (.tmp 39) rfl _ _ v1 v2 HRUN.out ⟨trivial, fun _ => rfl, JA.step fun L' y' h1 h2 h3 h4 => ⟨(fun h => by rw [h2 (by decide)] at h; cases h), (fun h => by rw [h1 5 (by decide) (by decide), hL5] at h; cases h), (fun _ h => by rw [h1 12 (by decide) (by decide), hL12] at h; cases h), (fun _ h => by rw [h2 (by decide)] at h; cases h), fun _ => rfl⟩⟩ K Q hK
        · have e1 : y 40 = .slice va2 (k + 1) vc2 := (hp.out 13 (by decide)).2 (by decide)
          intro K Q hK
          clear hcl hL
          have v1 := (eval_frame 42 y [] (t := 40) (by decide)).trans e1
          obtain ⟨A, hA⟩ : ∃ A, (⟨frameOf 42 y, []⟩ : Act) = A := ⟨_, rfl⟩
          rw [hA] at v1 hK ⊢
          clear hA hy hp
          simp only [Act.eval] at v1
          go_simp
          exact hK _ _ ⟨trivial, fun _ => rfl, HJ.out.pure (by decide) (by decide)⟩
    · have hlti : ¬ (x : Int) + (k : Int) < (x : Int) + (sz : Int) := by omega
      obtain rfl : k = sz := by omega
      have HE : Hid (ZS.take k = ZS) := Lib.hid (List.take_of_length_le (by rw [← HLM.out]; exact Nat.le_refl _))
      go_wp2
      go_ret2
      have h1 := HO.out
      rw [HE.out] at h1
      rw [← HLM.out]
      exact ⟨_, rfl, own_base h1 (by omega), HBW2.out⟩
end Go.Proofs.Ytahjgbmhleiocaa
