/-
  What is proved here: VmemProt: what may be done with two pages, asked at any address across their border, is the document's.
  Conditions: none of our own; the law's row says what its input is.
-/
import Derived.Test.YtahjgbmhleiocaaRows
import Derived.Test.YtahjgbmhleiocaaVmRst
import Derived.Test.YtahjgbmhleiocaaVmSlm
import Derived.Test.YtahjgbmhleiocaaVmMdl
import Derived.Test.YtahjgbmhleiocaaFEnd
import Derived.Test.YtahjgbmhleiocaaFWords
import Derived.Test.YtahjgbmhleiocaaApp
import Derived.Test.YtahjgbmhleiocaaMask
import Derived.WalkKit
import Derived.ProofKit
import Derived.OpenShut
import Derived.ShutString
import Derived.ChangeOld
import Derived.Below
namespace Go.Proofs.Ytahjgbmhleiocaa.vmemProt
open Go.ChangeShapes Go.WideShapes Go.ChangeAt Go.RowKit
open Go.ChangeMaps (open_string shut_string)
set_option linter.unusedVariables false

theorem own : ownKnob Try.prog.godebug = none := by kernel_rfl
theorem laidOut : laidOutB Try.prog = true := by kernel_rfl

def PgF (M : List Pg) (u : Value) (w : World) : Prop := ∃ va vc bl, u = .slice va M.length vc ∧ bl.length = M.length ∧ Vp.Sl w w.heap.size va M.length (vps M bl)
theorem PgF.mono (M : List Pg) : Mono (PgF M) := fun _ _ _ h hb => by
  obtain ⟨va, vc, bl, e, hl, hs⟩ := h
  exact ⟨va, vc, bl, e, hl, (hs.below hb).more hb.size⟩
def RaF (M : List Pg) (u : Value) (w : World) : Prop := ∃ a n c, u = mv a n c ∧ RAt w w.heap.size a n c M
theorem RaF.mono (M : List Pg) : Mono (RaF M) := fun _ _ _ h hb => by
  obtain ⟨a, n, c, e, hs⟩ := h
  exact ⟨a, n, c, e, (hs.below hb).more hb.size⟩
theorem pages_post {M : List Pg} {w : World} {fi : Nat} {args : Array Value} (h : Calls Try.prog fi args w (PagesPost w M)) (hok : ∀ p ∈ M, p.Ok) : Calls Try.prog fi args w fun r w' => ∃ va vc bl, r = .returned (.slice va M.length vc) ∧ bl.length = M.length ∧ Vp.Sl w' w'.heap.size va M.length (vps M bl) ∧ Below w.heap.size w w' := by
  refine h.mono ?_
  rintro r w' ⟨v, bl, rfl, hbl, hrow, hbk, hb⟩
  obtain ⟨va, vc, rfl⟩ := own_slp hrow
  exact ⟨va, vc, bl, rfl, hbl, Vp.Sl.own (vps_ok hok hbl (fun k hk => (hbk k hk).2)) hrow, hb⟩
theorem pr_one {m : Nat} (h : m ≤ 7) : (mapR [] 256 256 m ⟨#[]⟩ 0).1 = [⟨256, m, false, ⟨#[]⟩, 0, zeros⟩] ∧ (mapR [] 256 256 m ⟨#[]⟩ 0).2 = 0 := by
  unfold mapR
  have hp : protP (m : Int) = true := by unfold protP; simp; omega
  rw [hp, if_pos (by decide), if_neg (by decide), if_neg (by decide)]
  refine ⟨?_, rfl⟩
  show insP [] (newPg (m : Int) ⟨#[]⟩ 0 256 0) = _
  unfold newPg insP
  rw [if_pos (show (⟨#[]⟩ : ByteArray).toList.isEmpty = true by kernel_rfl)]
theorem pr_two {m k : Nat} (h : m ≤ 7) : (mapR [⟨256, k, false, ⟨#[]⟩, 0, zeros⟩] 512 256 m ⟨#[]⟩ 0).2 = 0 ∧ (mapR [⟨256, k, false, ⟨#[]⟩, 0, zeros⟩] 512 256 m ⟨#[]⟩ 0).1.length = 2 := by
  unfold mapR
  have hp : protP (m : Int) = true := by unfold protP; simp; omega
  rw [hp, if_pos (by decide), if_neg (by unfold overP meetB; simp), if_neg (by rw [List.length_singleton]; decide)]
  exact ⟨rfl, by rw [addN_len]; rfl⟩
theorem u8_mask (n : Int) (M : Nat) (hM : M < 256) : ∃ m : Nat, m ≤ M ∧ bits .and .u8 n (M : Int) = (m : Int) := by
  have h2 : (BitVec.ofInt 8 (M : Int)).toNat = M := by
    rw [BitVec.ofInt_natCast, BitVec.toNat_ofNat]; exact Nat.mod_eq_of_lt (by omega)
  refine ⟨(BitVec.ofInt 8 n).toNat &&& M, Nat.and_le_right, ?_⟩
  show IntKind.u8.wrap ((BitVec.ofInt 8 n &&& BitVec.ofInt 8 (M : Int)).toNat : Int) = _
  rw [BitVec.toNat_and, h2]
  have : (BitVec.ofInt 8 n).toNat &&& M ≤ M := Nat.and_le_right
  rw [IntKind.wrap_u8]
  omega
theorem storeR_len {M : List Pg} {x : Nat} {n u : Int} : (storeR M x n u).1.length = M.length := by
  rw [store_is]
  split
  · have := congrArg List.length (poke_as true (digs u n.toNat).length M x _ rfl)
    rw [List.length_map, List.length_map] at this
    exact this
  · rfl
set_option maxRecDepth 100000 in
theorem fr135 (y : Nat → Value) : frameOf 135 y = #[y 0, y 1, y 2, y 3, y 4, y 5, y 6, y 7, y 8, y 9, y 10, y 11, y 12, y 13, y 14, y 15, y 16, y 17, y 18, y 19, y 20, y 21, y 22, y 23, y 24, y 25, y 26, y 27, y 28, y 29, y 30, y 31, y 32, y 33, y 34, y 35, y 36, y 37, y 38, y 39, y 40, y 41, y 42, y 43, y 44, y 45, y 46, y 47, y 48, y 49, y 50, y 51, y 52, y 53, y 54, y 55, y 56, y 57, y 58, y 59, y 60, y 61, y 62, y 63, y 64, y 65, y 66, y 67, y 68, y 69, y 70, y 71, y 72, y 73, y 74, y 75, y 76, y 77, y 78, y 79, y 80, y 81, y 82, y 83, y 84, y 85, y 86, y 87, y 88, y 89, y 90, y 91, y 92, y 93, y 94, y 95, y 96, y 97, y 98, y 99, y 100, y 101, y 102, y 103, y 104, y 105, y 106, y 107, y 108, y 109, y 110, y 111, y 112, y 113, y 114, y 115, y 116, y 117, y 118, y 119, y 120, y 121, y 122, y 123, y 124, y 125, y 126, y 127, y 128, y 129, y 130, y 131, y 132, y 133, y 134] := rfl
set_option maxRecDepth 100000 in
set_option maxHeartbeats 12800000 in
theorem walkAll (w : World) (a0 a1 a2 a3 a4 : Int) (w4 : (Lit.int .u64 a4).wf = true) :
    Calls Try.prog 5 #[.int .i64 a0, .int .i64 a1, .int .u8 a2, .int .i64 a3, .int .u64 a4] w fun e w' => e = .returned (.bool true) ∧ Below w.heap.size w w' := by
  obtain ⟨m1, hm1, hand1⟩ := i64_mask a0 7 (by decide)
  have hand1 : bits .and .i64 a0 7 = (m1 : Int) := hand1
  obtain ⟨m2, hm2, hand2⟩ := i64_mask a1 7 (by decide)
  have hand2 : bits .and .i64 a1 7 = (m2 : Int) := hand2
  obtain ⟨m, hm, hand3⟩ := i64_mask a3 3 (by decide)
  have hand3 : bits .and .i64 a3 3 = (m : Int) := hand3
  obtain ⟨m8, hm8, hand4⟩ := u8_mask a2 15 (by decide)
  have hand4 : bits .and .u8 a2 15 = (m8 : Int) := hand4
  obtain ⟨u0, u1⟩ : 0 ≤ a4 ∧ a4 ≤ 18446744073709551615 := by simpa [Lit.wf, IntKind.min, IntKind.max, IntKind.signed, IntKind.bits] using w4
  clear w4
  have hmm : Hid (m = 0 ∨ m = 1 ∨ m = 2 ∨ m = 3) := Lib.hid (by omega)
  have hcs := fun g w => cmp_sp g w
  go_enter Try.func5, Try.ntmps5
  go_wp2_with fail
  refine (awake_ok w).mono ?_
  rintro r0 v0 ⟨rfl, hb⟩
  have HB := Lib.hid hb
  clear hb
  go_wp2_with fail
  refine (AW.new v0).mono ?_
  rintro r1 v1 ⟨rfl, H1⟩
  obtain ⟨g, hg⟩ : ∃ g, v0.heap.size = g := ⟨_, rfl⟩
  have HG := Lib.hid hg
  rw [hg] at H1 ⊢
  obtain ⟨fB, hfB⟩ : ∃ f : ByteArray, (⟨#[]⟩ : ByteArray) = f := ⟨_, rfl⟩
  have hfs : fB.size ≤ maxLen := by rw [← hfB]; decide
  obtain ⟨gm, hgm⟩ : ∃ gm, v1.heap.size = gm := ⟨_, rfl⟩
  obtain ⟨v2, hv2⟩ : ∃ v2, v1.alloc (.cells #[.slice none 0 0] 34) = v2 := ⟨_, rfl⟩
  have hb12 : Below v1.heap.size v1 v2 := by rw [← hv2]; exact (Below.refl _ _).alloc (Nat.le_refl _) _
  have hk2 : Blk v2 gm #[.slice none 0 0] 34 := by rw [← hv2, ← hgm]; exact Blk.new _ _ _
  have H2 := Lib.hid (H1.out.later hb12)
  have HK2 := Lib.hid hk2
  obtain ⟨p1, p2⟩ := pr_one (m := m1) hm1
  obtain ⟨q1, q2⟩ := pr_two (m := m2) (k := m1) hm2
  rw [hfB] at p1 p2 q1 q2
  have h3 := H2.out.map2 256 256 m1 fB 0 (by decide) (by decide) hfs (by decide) (by decide) (by decide)
  have hr3 := fun (vx : World) => rmap_ok (RAt.empty vx) (Nat.le_refl _) 256 256 m1 fB 0 (by decide) (by decide) hfs (by decide) (by decide)
  obtain ⟨M1, hM1⟩ : ∃ M1, ([⟨256, m1, false, fB, 0, zeros⟩] : List Pg) = M1 := ⟨_, rfl⟩
  rw [hM1] at p1 q1 q2
  rw [p1, p2] at h3
  unfold mv at hr3
  simp only [p1, p2] at hr3
  have h4 := fun (w' w2 : World) (S : VS) (h : AW w' w2 S M1 g 512) => h.map2 512 256 m2 fB 0 (by decide) (by decide) hfs (by decide) (by decide) (by decide)
  have hr4 := fun (vx : World) (B : Nat) (a : Option Addr) (n c : Nat) (h : RAt vx B a n c M1) (hB : B ≤ vx.heap.size) => rmap_ok h hB 512 256 m2 fB 0 (by decide) (by decide) hfs (by decide) (by decide)
  unfold mv at hr4
  simp only [q1] at h4 hr4
  obtain ⟨M2, hM2⟩ : ∃ M2, (mapR M1 512 256 m2 fB 0).1 = M2 := ⟨_, rfl⟩
  simp only [hM2] at h4 hr4 q2
  have HM := Lib.hid h3
  have HRM := Lib.hid hr3
  have HM4 := Lib.hid h4
  have HR4 := Lib.hid hr4
  have HL2 := Lib.hid q2
  have hgg : g < gm := by rw [← hg, ← hgm]; have := H1.out.at0.sm g (by have := H1.out.at0; exact rfl); rw [hg] at *; exact this
  clear h3 hr3 h4 hr4 hb12 hk2 H1 H2 hfs hg p1 p2 q1 q2 hM1 hM2 hm1 hm2
  go_wp2_with fail
  refine HM.out.mono ?_
  rintro r3 v3 ⟨rfl, h3⟩
  obtain ⟨S, hA, hown, hfr⟩ := h3.out
  have hglt := HK2.out.lt
  have hno : ¬ S.own gm := fun ho => by
    rcases hown gm ho with h4 | h4
    · have h4 : gm = g := h4
      omega
    · omega
  have HK3 := Lib.hid (blk_same HK2.out (hfr.frm gm hglt (fun ho => by have ho : gm = g := ho; omega)))
  have HNO := Lib.hid hno
  have H4 := Lib.hid (HM4.out _ _ _ hA)
  clear h3 hA hown hfr hglt hno HM HM4
  go_wp2_with fail
  refine H4.out.mono ?_
  rintro r4 v4 ⟨rfl, h4⟩
  obtain ⟨S4, hA, hown, hfr⟩ := h4.out
  have hglt := HK3.out.lt
  have hno : ¬ S4.own gm := fun ho => by
    rcases hown gm ho with h4 | h4
    · exact HNO.out h4
    · omega
  have HK4 := Lib.hid (blk_same HK3.out (hfr.frm gm hglt HNO.out))
  have HNO4 := Lib.hid hno
  have HA4 := Lib.hid hA
  have k4 := HK4.out.cell 0
  clear h4 hA hown hfr hglt hno H4
  go_wp2_with fail
  refine (HRM.out v4).mono ?_
  rintro r5 v5 ⟨a', n', c', rfl, hra, hb5⟩
  have hk5 := HK4.out.later hb5
  have k5 := hk5.cell 0
  have f5 := hk5.frozen 0
  have hgv : v0.heap.size ≤ gm := by rw [HG.out]; omega
  obtain ⟨v6, hv6⟩ : ∃ v6, v5.setCell ⟨gm, 0, none⟩ (.slice a' n' c') = v6 := ⟨_, rfl⟩
  have HA6 : Hid (AW v0 v6 S4 M2 g (512 + 512)) := Lib.hid (by rw [← hv6]; exact (HA4.out.later hb5).put HNO4.out hgv _)
  have hra6 : RAt v6 v6.heap.size a' n' c' M1 := by
    rw [← hv6, World.size_setCell]
    exact hra.setBox hk5 _
  have HK6 : Hid (Blk v6 gm #[.slice a' n' c'] 34) := Lib.hid (by rw [← hv6]; exact hk5.put 0 _)
  have HR6 := Lib.hid (HR4.out v6 _ a' n' c' hra6 (Nat.le_refl _))
  have k6 := HK6.out.cell 0
  clear hra hb5 hk5 hra6 k4 HRM HR4
  go_wp2_with fail
  refine HR6.out.mono ?_
  rintro r7 v7 ⟨b', n7, c7, rfl, hra, hb7⟩
  have hk7 := HK6.out.later hb7
  have k7 := hk7.cell 0
  have f7 := hk7.frozen 0
  obtain ⟨v8, hv8⟩ : ∃ v8, v7.setCell ⟨gm, 0, none⟩ (.slice b' n7 c7) = v8 := ⟨_, rfl⟩
  have HA8 : Hid (AW v0 v8 S4 M2 g (512 + 512)) := Lib.hid (by rw [← hv8]; exact (HA6.out.later hb7).put HNO4.out hgv _)
  have HRA8 : Hid (RAt v8 v8.heap.size b' n7 c7 M2) := Lib.hid (by
    rw [← hv8, World.size_setCell]
    exact hra.setBox hk7 _)
  have HK8 : Hid (Blk v8 gm #[.slice b' n7 c7] 34) := Lib.hid (by rw [← hv8]; exact hk7.put 0 _)
  clear hra hb7 hk7 k6 k5 f5 hv6
  obtain ⟨n, hn, hmn⟩ : ∃ n : Nat, isW n ∧ [Value.int .i64 1, .int .i64 2, .int .i64 4, .int .i64 8][m]? = some (.int .i64 (n : Int)) := by
    rcases hmm.out with rfl | rfl | rfl | rfl
    · exact ⟨1, by decide, rfl⟩
    · exact ⟨2, by decide, rfl⟩
    · exact ⟨4, by decide, rfl⟩
    · exact ⟨8, by decide, rfl⟩
  have hm0 : (0 : Int) ≤ m := by omega
  have hm4 : (m : Int) < 4 := by omega
  have hml : m < 4 := by omega
  obtain ⟨A, hA⟩ : ∃ A : Nat, 500 + m8 = A := ⟨_, rfl⟩
  have hwa : IntKind.u64.wrap (m8 : Int) = m8 := by rw [IntKind.wrap_u64]; omega
  have hwb : IntKind.u64.wrap (500 + (m8 : Int)) = (A : Int) := by rw [IntKind.wrap_u64]; omega
  have HX : Hid (A ≤ 18446744073709551615) := Lib.hid (by omega)
  have hcell : (v8.alloc (.cells #[.int .i64 1, .int .i64 2, .int .i64 4, .int .i64 8] 3)).cell? ⟨v8.heap.size, m, none⟩ = some (.int .i64 (n : Int)) := by
    rw [(Blk.new v8 #[.int .i64 1, .int .i64 2, .int .i64 4, .int .i64 8] 3).cell m]
    simpa using hmn
  obtain ⟨v9, hv9⟩ : ∃ v9, v8.alloc (.cells #[.int .i64 1, .int .i64 2, .int .i64 4, .int .i64 8] 3) = v9 := ⟨_, rfl⟩
  have hb89 : Below v8.heap.size v8 v9 := by rw [← hv9]; exact (Below.refl _ _).alloc (Nat.le_refl _) _
  have HS9 := Lib.hid ((HA8.out.later hb89).slim)
  have HU9 := Lib.hid (HA8.out.later hb89).at0
  have HRA9 := Lib.hid ((HRA8.out.below hb89).more hb89.size)
  have HK9 := Lib.hid (HK8.out.later hb89)
  have HNS : Hid (¬ (slim S4 M2).own gm) := Lib.hid (fun ho => HNO4.out (slim_sub HA8.out.at0 gm ho))
  rw [hv9] at hcell
  have h10 := HS9.out.store A n a4 HX.out u0 u1
  have hl10 := storeR_len (M := M2) (x := A) (n := n) (u := a4)
  obtain ⟨R, hR⟩ : ∃ R, storeR M2 A n a4 = R := ⟨_, rfl⟩
  rw [hR] at h10 hl10
  have H10 := Lib.hid h10
  have HRR := Lib.hid hR
  have HN := Lib.hid hn
  have HQ2 : Hid (R.1.length = 2) := Lib.hid (hl10.trans HL2.out)
  clear hb89 h10 hl10 hR hn hmn hA
  go_wp2_with fail
  refine H10.out.mono ?_
  rintro r10 v10 ⟨rfl, h10⟩
  obtain ⟨hA10, ht10⟩ := h10.out
  have HA10 := Lib.hid hA10
  have HK10 := Lib.hid (blk_same HK9.out (ht10.block gm HK9.out.lt HNS.out))
  have hra10 := (HRA9.out.turn (S := S4) (N := M2) HU9.out ht10 (Nat.le_refl _)).more ht10.size
  have h11 := rstore_ok hra10 (Nat.le_refl _) A HX.out n HN.out a4 u0 u1
  rw [HRR.out] at h11
  unfold mv at h11
  have H11 := Lib.hid h11
  have k10 := HK10.out.cell 0
  clear h10 hA10 ht10 hra10 h11 hcell hv9 hv8 k7 f7 H10
  go_wp2_with fail
  refine H11.out.mono ?_
  rintro r11 v11 ⟨a3', n3, c3, rfl, hra11, hb11⟩
  obtain ⟨gn, hgn⟩ : ∃ gn, v11.heap.size = gn := ⟨_, rfl⟩
  obtain ⟨v12, hv12⟩ : ∃ v12, (v11.alloc (.cells #[.slice none 0 0] 34)).setCell ⟨gn, 0, none⟩ (.slice a3' n3 c3) = v12 := ⟨_, rfl⟩
  have hb12 : Below v11.heap.size v11 v12 := by rw [← hv12]; exact ((Below.refl _ _).alloc (Nat.le_refl _) _).setCell (p := ⟨gn, 0, none⟩) (by show v11.heap.size ≤ gn; omega) _
  have hk12 : Blk v12 gn #[.slice a3' n3 c3] 34 := by rw [← hv12, ← hgn]; exact (Blk.new v11 #[.slice none 0 0] 34).put 0 _
  obtain ⟨Q, hQ⟩ : ∃ Q, R.1 = Q := ⟨_, rfl⟩
  obtain ⟨E, hE⟩ : ∃ E, R.2 = E := ⟨_, rfl⟩
  rw [hQ] at hra11 HA10 HQ2
  rw [hE]
  have HA12 := Lib.hid ((HA10.out.later hb11).later hb12)
  have HK12 := Lib.hid hk12
  have HRA12 := Lib.hid ((hra11.below hb12).more hb12.size)
  have h13 := HA12.out.load A n HX.out
  have hr13 := fun (wx : World) (hb : Below v12.heap.size v12 wx) => rload_ok ((HRA12.out.below hb).more hb.size) (Nat.le_refl _) A HX.out n HN.out
  unfold mv at hr13
  obtain ⟨L, hL⟩ : ∃ L, loadR Q A n 4 = L := ⟨_, rfl⟩
  simp only [hL] at h13 hr13
  obtain ⟨Y, hY⟩ : ∃ Y, L.1 = Y := ⟨_, rfl⟩
  obtain ⟨G, hG⟩ : ∃ G, L.2 = G := ⟨_, rfl⟩
  simp only [hY, hG] at h13 hr13
  have H13 := Lib.hid h13
  have HR13 := Lib.hid hr13
  clear hra11 hb11 hb12 hk12 h13 hr13 hQ hE hL hY hG H11 k10
  go_wp2_with fail
  refine H13.out.mono ?_
  rintro r13 v13 ⟨rfl, h13⟩
  have HB13 := Lib.hid h13.out
  have HA13 := Lib.hid (HA12.out.later h13.out)
  have k13 := (HK12.out.later h13.out).cell 0
  have H14 := Lib.hid (HR13.out v13 h13.out)
  clear h13 H13 HR13
  go_wp2_with fail
  refine H14.out.mono ?_
  rintro r14 v14 ⟨rfl, h14⟩
  have HB14 := Lib.hid (HB13.out.trans (h14.mono HB13.out.size))
  have HA14 := Lib.hid (HA13.out.later h14)
  have h15 := HA14.out.fetch A HX.out
  have hr15 := fun (wx : World) (hb : Below v12.heap.size v12 wx) => rfetch_ok ((HRA12.out.below hb).more hb.size) (Nat.le_refl _) A HX.out
  unfold mv at hr15
  obtain ⟨L, hL⟩ : ∃ L, fetchR Q A = L := ⟨_, rfl⟩
  simp only [hL] at h15 hr15
  obtain ⟨V, hV⟩ : ∃ V, L.1 = V := ⟨_, rfl⟩
  obtain ⟨I, hI⟩ : ∃ I, L.2 = I := ⟨_, rfl⟩
  simp only [hV, hI] at h15 hr15
  have H15 := Lib.hid h15
  have HR15 := Lib.hid hr15
  clear h14 h15 hr15 hL hV hI H14 k13
  go_wp2_with fail
  refine H15.out.mono ?_
  rintro r15 v15 ⟨rfl, h15⟩
  have HB15 := Lib.hid (HB14.out.trans (h15.out.mono HB14.out.size))
  have HA15 := Lib.hid (HA14.out.later h15.out)
  have k15 := (HK12.out.later HB15.out).cell 0
  have H16 := Lib.hid (HR15.out v15 HB15.out)
  clear h15 H15 HR15
  go_wp2_with fail
  refine H16.out.mono ?_
  rintro r16 v16 ⟨rfl, h16⟩
  have HB16 := Lib.hid (HB15.out.trans (h16.mono HB15.out.size))
  have HA16 := Lib.hid (HA15.out.later h16)
  have HBE : Hid (Below w.heap.size w v16) := Lib.hid (HB.out.trans (HA16.out.bel.mono HB.out.size))
  have HQL : Hid (Q.length ≤ 12) := Lib.hid (by have := HQ2.out; omega)
  have HOK : Hid ((∀ p ∈ Q, p.Ok) ∧ (Q.map (·.a)).Pairwise (· < ·)) := Lib.hid ⟨HA16.out.at0.ok, HA16.out.at0.so⟩
  have hd : ∀ wx, Stays v16.drew wx → Below v16.heap.size v16 wx := fun wx hb => (Below.refl _ _).drew.trans hb
  have HPG : Hid (∀ wx, Stays v16.drew wx → Calls Try.prog 11 #[.pointer (some ⟨g, 0, none⟩)] wx (PagesPost wx Q)) := Lib.hid (fun wx hb => (HA16.out.later (hd wx hb)).pages HQL.out)
  have HKN : Hid (∀ wx, Stays v16.drew wx → wx.cell? ⟨gn, 0, none⟩ = some (.slice a3' n3 c3)) := Lib.hid (fun wx hb => (HK12.out.later (HB16.out.trans ((hd wx hb).mono HB16.out.size))).cell 0)
  have HRN : Hid (∀ wx, Stays v16.drew wx → RAt wx wx.heap.size a3' n3 c3 Q) := Lib.hid (fun wx hb => by
    have hb2 := HB16.out.trans ((hd wx hb).mono HB16.out.size)
    exact (HRA12.out.below hb2).more hb2.size)
  clear h16 H16 k15 hd
  go_wp2_with fail
  refine wp_region_facts (by kernel_rfl) Stays Stays.refl Stays.trans 135 rfl [105, 106, 107, 108, 109, 110, 111, 112, 113, 114, 115, 116, 117, 118, 119, 120, 121, 122, 123, 124, 125, 126, 127, 128, 129, 130, 131, 132, 133, 134, 10] (factsOf [Is (.int .i64 E), Is (.int .i64 E), Is (.bool true), Is (.bool true), Is (.int .u64 Y), Is (.int .u64 Y), Is (.bool true), Is (.bool true), Is (.bool true), Is (.int .i64 G), Is (.int .i64 G), Is (.bool true), Is (.bool true), Is (.bool true), Is (.int .u64 V), Is (.int .u64 V), Is (.bool true), Is (.bool true), Is (.bool true), Is (.int .i64 I), Is (.int .i64 I), Is (.bool true), Is (.bool true), Is (.bool true), Is (.pointer (some ⟨g, 0, none⟩)), PgF Q, RaF Q, Is (.agg #[.slice a3' n3 c3]), Is (.bool true), Is (.bool true), Is (.bool true)]) (by kernel_rfl) (factsOf_mono (mono_cons (Is.mono _) (mono_cons (Is.mono _) (mono_cons (Is.mono _) (mono_cons (Is.mono _) (mono_cons (Is.mono _) (mono_cons (Is.mono _) (mono_cons (Is.mono _) (mono_cons (Is.mono _) (mono_cons (Is.mono _) (mono_cons (Is.mono _) (mono_cons (Is.mono _) (mono_cons (Is.mono _) (mono_cons (Is.mono _) (mono_cons (Is.mono _) (mono_cons (Is.mono _) (mono_cons (Is.mono _) (mono_cons (Is.mono _) (mono_cons (Is.mono _) (mono_cons (Is.mono _) (mono_cons (Is.mono _) (mono_cons (Is.mono _) (mono_cons (Is.mono _) (mono_cons (Is.mono _) (mono_cons (Is.mono _) (mono_cons (Is.mono _) (mono_cons (PgF.mono _) (mono_cons (RaF.mono _) (mono_cons (Is.mono _) (mono_cons (Is.mono _) (mono_cons (Is.mono _) (mono_cons (Is.mono _) mono_nil)))))))))))))))))))))))))))))))) ?steps105 ?fin105
  case fin105 =>
    intro v w2 hb2 hF
    have hlast : v 30 = .bool true := hF 30 (by decide)
    have HBF := Lib.hid hb2
    clear hb2 hF
    simp only [putAll, List.set_cons_succ, List.set_cons_zero, Nat.reduceAdd, hlast]
    go_wp2
    go_ret
    exact ⟨rfl, HBE.out.trans (((Below.refl _ _).drew.trans HBF.out).mono HBE.out.size)⟩
  case steps105 =>
    refine ⟨?_, ?_, ?_, ?_, ?_, ?_, ?_, ?_, ?_, ?_, ?_, ?_, ?_, ?_, ?_, ?_, ?_, ?_, ?_, ?_, ?_, ?_, ?_, ?_, ?_, ?_, ?_, ?_, ?_, ?_, ?_, trivial⟩
    all_goals intro y w2 hb hy0 hp0
    all_goals have hy := Lib.hid hy0
    all_goals have hp := Lib.hid hp0
    all_goals have hst := Lib.hid hb
    all_goals clear hy0 hp0 hb
    · have e1 : y 16 = .int .i64 E := hy.out 16 (by decide)
      refine StepG.plain rfl fun K Q hK => ?_
      have v1 := (eval_frame 135 y [] (t := 16) (by decide)).trans e1
      obtain ⟨A, hA⟩ : ∃ A, (⟨frameOf 135 y, []⟩ : Act) = A := ⟨_, rfl⟩
      rw [hA] at v1 hK ⊢
      clear hA hy hp
      simp only [Act.eval] at v1
      go_simp
      exact hK _ _ ⟨Stays.refl _, by first | rfl | simp [Is] | (simp [factsOf, Is]; done)⟩
    · have e1 : y 18 = .int .i64 E := hy.out 18 (by decide)
      refine StepG.plain rfl fun K Q hK => ?_
      have v1 := (eval_frame 135 y [] (t := 18) (by decide)).trans e1
      obtain ⟨A, hA⟩ : ∃ A, (⟨frameOf 135 y, []⟩ : Act) = A := ⟨_, rfl⟩
      rw [hA] at v1 hK ⊢
      clear hA hy hp
      simp only [Act.eval] at v1
      go_simp
      exact hK _ _ ⟨Stays.refl _, by first | rfl | simp [Is] | (simp [factsOf, Is]; done)⟩
    · have e1 : y 105 = .int .i64 E := hp.out 0 (by decide)
      have e2 : y 106 = .int .i64 E := hp.out 1 (by decide)
      refine StepG.plain rfl fun K Q hK => ?_
      have v1 := (eval_frame 135 y [] (t := 105) (by decide)).trans e1
      have v2 := (eval_frame 135 y [] (t := 106) (by decide)).trans e2
      obtain ⟨A, hA⟩ : ∃ A, (⟨frameOf 135 y, []⟩ : Act) = A := ⟨_, rfl⟩
      rw [hA] at v1 v2 hK ⊢
      clear hA hy hp
      simp only [Act.eval] at v1 v2
      go_simp
      exact hK _ _ ⟨Stays.refl _, by first | rfl | simp [Is] | (simp [factsOf, Is]; done)⟩
    · have e1 : y 107 = .bool true := hp.out 2 (by decide)
      refine StepG.plain rfl fun K Q hK => ?_
      have v1 := (eval_frame 135 y [] (t := 107) (by decide)).trans e1
      obtain ⟨A, hA⟩ : ∃ A, (⟨frameOf 135 y, []⟩ : Act) = A := ⟨_, rfl⟩
      rw [hA] at v1 hK ⊢
      clear hA hy hp
      simp only [Act.eval] at v1
      go_simp
      exact hK _ _ ⟨Stays.refl _, by first | rfl | simp [Is] | (simp [factsOf, Is]; done)⟩
    · have e1 : y 19 = .int .u64 Y := hy.out 19 (by decide)
      refine StepG.yes (b := true) (t := 108) rfl rfl rfl (by decide) (hp.out 3 (by decide)) fun K Q hK => ?_
      have v1 := (eval_frame 135 y [] (t := 19) (by decide)).trans e1
      obtain ⟨A, hA⟩ : ∃ A, (⟨frameOf 135 y, []⟩ : Act) = A := ⟨_, rfl⟩
      rw [hA] at v1 hK ⊢
      clear hA hy hp
      simp only [Act.eval] at v1
      go_simp
      exact hK _ _ ⟨Stays.refl _, by first | rfl | simp [Is] | (simp [factsOf, Is]; done)⟩
    · have e1 : y 21 = .int .u64 Y := hy.out 21 (by decide)
      refine StepG.yes (b := true) (t := 108) rfl rfl rfl (by decide) (hp.out 3 (by decide)) fun K Q hK => ?_
      have v1 := (eval_frame 135 y [] (t := 21) (by decide)).trans e1
      obtain ⟨A, hA⟩ : ∃ A, (⟨frameOf 135 y, []⟩ : Act) = A := ⟨_, rfl⟩
      rw [hA] at v1 hK ⊢
      clear hA hy hp
      simp only [Act.eval] at v1
      go_simp
      exact hK _ _ ⟨Stays.refl _, by first | rfl | simp [Is] | (simp [factsOf, Is]; done)⟩
    · have e1 : y 109 = .int .u64 Y := hp.out 4 (by decide)
      have e2 : y 110 = .int .u64 Y := hp.out 5 (by decide)
      refine StepG.yes (b := true) (t := 108) rfl rfl rfl (by decide) (hp.out 3 (by decide)) fun K Q hK => ?_
      have v1 := (eval_frame 135 y [] (t := 109) (by decide)).trans e1
      have v2 := (eval_frame 135 y [] (t := 110) (by decide)).trans e2
      obtain ⟨A, hA⟩ : ∃ A, (⟨frameOf 135 y, []⟩ : Act) = A := ⟨_, rfl⟩
      rw [hA] at v1 v2 hK ⊢
      clear hA hy hp
      simp only [Act.eval] at v1 v2
      go_simp
      exact hK _ _ ⟨Stays.refl _, by first | rfl | simp [Is] | (simp [factsOf, Is]; done)⟩
    · have e1 : y 108 = .bool true := hp.out 3 (by decide)
      have e2 : y 111 = .bool true := hp.out 6 (by decide)
      refine StepG.plain rfl fun K Q hK => ?_
      have v1 := (eval_frame 135 y [] (t := 108) (by decide)).trans e1
      have v2 := (eval_frame 135 y [] (t := 111) (by decide)).trans e2
      obtain ⟨A, hA⟩ : ∃ A, (⟨frameOf 135 y, []⟩ : Act) = A := ⟨_, rfl⟩
      rw [hA] at v1 v2 hK ⊢
      clear hA hy hp
      simp only [Act.eval] at v1 v2
      go_simp
      exact hK _ _ ⟨Stays.refl _, by first | rfl | simp [Is] | (simp [factsOf, Is]; done)⟩
    · have e1 : y 112 = .bool true := hp.out 7 (by decide)
      refine StepG.plain rfl fun K Q hK => ?_
      have v1 := (eval_frame 135 y [] (t := 112) (by decide)).trans e1
      obtain ⟨A, hA⟩ : ∃ A, (⟨frameOf 135 y, []⟩ : Act) = A := ⟨_, rfl⟩
      rw [hA] at v1 hK ⊢
      clear hA hy hp
      simp only [Act.eval] at v1
      go_simp
      exact hK _ _ ⟨Stays.refl _, by first | rfl | simp [Is] | (simp [factsOf, Is]; done)⟩
    · have e1 : y 20 = .int .i64 G := hy.out 20 (by decide)
      refine StepG.yes (b := true) (t := 113) rfl rfl rfl (by decide) (hp.out 8 (by decide)) fun K Q hK => ?_
      have v1 := (eval_frame 135 y [] (t := 20) (by decide)).trans e1
      obtain ⟨A, hA⟩ : ∃ A, (⟨frameOf 135 y, []⟩ : Act) = A := ⟨_, rfl⟩
      rw [hA] at v1 hK ⊢
      clear hA hy hp
      simp only [Act.eval] at v1
      go_simp
      exact hK _ _ ⟨Stays.refl _, by first | rfl | simp [Is] | (simp [factsOf, Is]; done)⟩
    · have e1 : y 22 = .int .i64 G := hy.out 22 (by decide)
      refine StepG.yes (b := true) (t := 113) rfl rfl rfl (by decide) (hp.out 8 (by decide)) fun K Q hK => ?_
      have v1 := (eval_frame 135 y [] (t := 22) (by decide)).trans e1
      obtain ⟨A, hA⟩ : ∃ A, (⟨frameOf 135 y, []⟩ : Act) = A := ⟨_, rfl⟩
      rw [hA] at v1 hK ⊢
      clear hA hy hp
      simp only [Act.eval] at v1
      go_simp
      exact hK _ _ ⟨Stays.refl _, by first | rfl | simp [Is] | (simp [factsOf, Is]; done)⟩
    · have e1 : y 114 = .int .i64 G := hp.out 9 (by decide)
      have e2 : y 115 = .int .i64 G := hp.out 10 (by decide)
      refine StepG.yes (b := true) (t := 113) rfl rfl rfl (by decide) (hp.out 8 (by decide)) fun K Q hK => ?_
      have v1 := (eval_frame 135 y [] (t := 114) (by decide)).trans e1
      have v2 := (eval_frame 135 y [] (t := 115) (by decide)).trans e2
      obtain ⟨A, hA⟩ : ∃ A, (⟨frameOf 135 y, []⟩ : Act) = A := ⟨_, rfl⟩
      rw [hA] at v1 v2 hK ⊢
      clear hA hy hp
      simp only [Act.eval] at v1 v2
      go_simp
      exact hK _ _ ⟨Stays.refl _, by first | rfl | simp [Is] | (simp [factsOf, Is]; done)⟩
    · have e1 : y 113 = .bool true := hp.out 8 (by decide)
      have e2 : y 116 = .bool true := hp.out 11 (by decide)
      refine StepG.plain rfl fun K Q hK => ?_
      have v1 := (eval_frame 135 y [] (t := 113) (by decide)).trans e1
      have v2 := (eval_frame 135 y [] (t := 116) (by decide)).trans e2
      obtain ⟨A, hA⟩ : ∃ A, (⟨frameOf 135 y, []⟩ : Act) = A := ⟨_, rfl⟩
      rw [hA] at v1 v2 hK ⊢
      clear hA hy hp
      simp only [Act.eval] at v1 v2
      go_simp
      exact hK _ _ ⟨Stays.refl _, by first | rfl | simp [Is] | (simp [factsOf, Is]; done)⟩
    · have e1 : y 117 = .bool true := hp.out 12 (by decide)
      refine StepG.plain rfl fun K Q hK => ?_
      have v1 := (eval_frame 135 y [] (t := 117) (by decide)).trans e1
      obtain ⟨A, hA⟩ : ∃ A, (⟨frameOf 135 y, []⟩ : Act) = A := ⟨_, rfl⟩
      rw [hA] at v1 hK ⊢
      clear hA hy hp
      simp only [Act.eval] at v1
      go_simp
      exact hK _ _ ⟨Stays.refl _, by first | rfl | simp [Is] | (simp [factsOf, Is]; done)⟩
    · have e1 : y 23 = .int .u64 V := hy.out 23 (by decide)
      refine StepG.yes (b := true) (t := 118) rfl rfl rfl (by decide) (hp.out 13 (by decide)) fun K Q hK => ?_
      have v1 := (eval_frame 135 y [] (t := 23) (by decide)).trans e1
      obtain ⟨A, hA⟩ : ∃ A, (⟨frameOf 135 y, []⟩ : Act) = A := ⟨_, rfl⟩
      rw [hA] at v1 hK ⊢
      clear hA hy hp
      simp only [Act.eval] at v1
      go_simp
      exact hK _ _ ⟨Stays.refl _, by first | rfl | simp [Is] | (simp [factsOf, Is]; done)⟩
    · have e1 : y 25 = .int .u64 V := hy.out 25 (by decide)
      refine StepG.yes (b := true) (t := 118) rfl rfl rfl (by decide) (hp.out 13 (by decide)) fun K Q hK => ?_
      have v1 := (eval_frame 135 y [] (t := 25) (by decide)).trans e1
      obtain ⟨A, hA⟩ : ∃ A, (⟨frameOf 135 y, []⟩ : Act) = A := ⟨_, rfl⟩
      rw [hA] at v1 hK ⊢
      clear hA hy hp
      simp only [Act.eval] at v1
      go_simp
      exact hK _ _ ⟨Stays.refl _, by first | rfl | simp [Is] | (simp [factsOf, Is]; done)⟩
    · have e1 : y 119 = .int .u64 V := hp.out 14 (by decide)
      have e2 : y 120 = .int .u64 V := hp.out 15 (by decide)
      refine StepG.yes (b := true) (t := 118) rfl rfl rfl (by decide) (hp.out 13 (by decide)) fun K Q hK => ?_
      have v1 := (eval_frame 135 y [] (t := 119) (by decide)).trans e1
      have v2 := (eval_frame 135 y [] (t := 120) (by decide)).trans e2
      obtain ⟨A, hA⟩ : ∃ A, (⟨frameOf 135 y, []⟩ : Act) = A := ⟨_, rfl⟩
      rw [hA] at v1 v2 hK ⊢
      clear hA hy hp
      simp only [Act.eval] at v1 v2
      go_simp
      exact hK _ _ ⟨Stays.refl _, by first | rfl | simp [Is] | (simp [factsOf, Is]; done)⟩
    · have e1 : y 118 = .bool true := hp.out 13 (by decide)
      have e2 : y 121 = .bool true := hp.out 16 (by decide)
      refine StepG.plain rfl fun K Q hK => ?_
      have v1 := (eval_frame 135 y [] (t := 118) (by decide)).trans e1
      have v2 := (eval_frame 135 y [] (t := 121) (by decide)).trans e2
      obtain ⟨A, hA⟩ : ∃ A, (⟨frameOf 135 y, []⟩ : Act) = A := ⟨_, rfl⟩
      rw [hA] at v1 v2 hK ⊢
      clear hA hy hp
      simp only [Act.eval] at v1 v2
      go_simp
      exact hK _ _ ⟨Stays.refl _, by first | rfl | simp [Is] | (simp [factsOf, Is]; done)⟩
    · have e1 : y 122 = .bool true := hp.out 17 (by decide)
      refine StepG.plain rfl fun K Q hK => ?_
      have v1 := (eval_frame 135 y [] (t := 122) (by decide)).trans e1
      obtain ⟨A, hA⟩ : ∃ A, (⟨frameOf 135 y, []⟩ : Act) = A := ⟨_, rfl⟩
      rw [hA] at v1 hK ⊢
      clear hA hy hp
      simp only [Act.eval] at v1
      go_simp
      exact hK _ _ ⟨Stays.refl _, by first | rfl | simp [Is] | (simp [factsOf, Is]; done)⟩
    · have e1 : y 24 = .int .i64 I := hy.out 24 (by decide)
      refine StepG.yes (b := true) (t := 123) rfl rfl rfl (by decide) (hp.out 18 (by decide)) fun K Q hK => ?_
      have v1 := (eval_frame 135 y [] (t := 24) (by decide)).trans e1
      obtain ⟨A, hA⟩ : ∃ A, (⟨frameOf 135 y, []⟩ : Act) = A := ⟨_, rfl⟩
      rw [hA] at v1 hK ⊢
      clear hA hy hp
      simp only [Act.eval] at v1
      go_simp
      exact hK _ _ ⟨Stays.refl _, by first | rfl | simp [Is] | (simp [factsOf, Is]; done)⟩
    · have e1 : y 26 = .int .i64 I := hy.out 26 (by decide)
      refine StepG.yes (b := true) (t := 123) rfl rfl rfl (by decide) (hp.out 18 (by decide)) fun K Q hK => ?_
      have v1 := (eval_frame 135 y [] (t := 26) (by decide)).trans e1
      obtain ⟨A, hA⟩ : ∃ A, (⟨frameOf 135 y, []⟩ : Act) = A := ⟨_, rfl⟩
      rw [hA] at v1 hK ⊢
      clear hA hy hp
      simp only [Act.eval] at v1
      go_simp
      exact hK _ _ ⟨Stays.refl _, by first | rfl | simp [Is] | (simp [factsOf, Is]; done)⟩
    · have e1 : y 124 = .int .i64 I := hp.out 19 (by decide)
      have e2 : y 125 = .int .i64 I := hp.out 20 (by decide)
      refine StepG.yes (b := true) (t := 123) rfl rfl rfl (by decide) (hp.out 18 (by decide)) fun K Q hK => ?_
      have v1 := (eval_frame 135 y [] (t := 124) (by decide)).trans e1
      have v2 := (eval_frame 135 y [] (t := 125) (by decide)).trans e2
      obtain ⟨A, hA⟩ : ∃ A, (⟨frameOf 135 y, []⟩ : Act) = A := ⟨_, rfl⟩
      rw [hA] at v1 v2 hK ⊢
      clear hA hy hp
      simp only [Act.eval] at v1 v2
      go_simp
      exact hK _ _ ⟨Stays.refl _, by first | rfl | simp [Is] | (simp [factsOf, Is]; done)⟩
    · have e1 : y 123 = .bool true := hp.out 18 (by decide)
      have e2 : y 126 = .bool true := hp.out 21 (by decide)
      refine StepG.plain rfl fun K Q hK => ?_
      have v1 := (eval_frame 135 y [] (t := 123) (by decide)).trans e1
      have v2 := (eval_frame 135 y [] (t := 126) (by decide)).trans e2
      obtain ⟨A, hA⟩ : ∃ A, (⟨frameOf 135 y, []⟩ : Act) = A := ⟨_, rfl⟩
      rw [hA] at v1 v2 hK ⊢
      clear hA hy hp
      simp only [Act.eval] at v1 v2
      go_simp
      exact hK _ _ ⟨Stays.refl _, by first | rfl | simp [Is] | (simp [factsOf, Is]; done)⟩
    · have e1 : y 127 = .bool true := hp.out 22 (by decide)
      refine StepG.plain rfl fun K Q hK => ?_
      have v1 := (eval_frame 135 y [] (t := 127) (by decide)).trans e1
      obtain ⟨A, hA⟩ : ∃ A, (⟨frameOf 135 y, []⟩ : Act) = A := ⟨_, rfl⟩
      rw [hA] at v1 hK ⊢
      clear hA hy hp
      simp only [Act.eval] at v1
      go_simp
      exact hK _ _ ⟨Stays.refl _, by first | rfl | simp [Is] | (simp [factsOf, Is]; done)⟩
    · have e1 : y 12 = .pointer (some ⟨g, 0, none⟩) := hy.out 12 (by decide)
      refine StepG.yes (b := true) (t := 128) rfl rfl rfl (by decide) (hp.out 23 (by decide)) fun K Q hK => ?_
      have v1 := (eval_frame 135 y [] (t := 12) (by decide)).trans e1
      obtain ⟨A, hA⟩ : ∃ A, (⟨frameOf 135 y, []⟩ : Act) = A := ⟨_, rfl⟩
      rw [hA] at v1 hK ⊢
      clear hA hy hp
      simp only [Act.eval] at v1
      go_simp
      exact hK _ _ ⟨Stays.refl _, by first | rfl | simp [Is] | (simp [factsOf, Is]; done)⟩
    · have e1 : y 129 = .pointer (some ⟨g, 0, none⟩) := hp.out 24 (by decide)
      refine StepG.yes (b := true) (t := 128) rfl rfl rfl (by decide) (hp.out 23 (by decide)) fun K Q hK => ?_
      have v1 := (eval_frame 135 y [] (t := 129) (by decide)).trans e1
      obtain ⟨A, hA⟩ : ∃ A, (⟨frameOf 135 y, []⟩ : Act) = A := ⟨_, rfl⟩
      rw [hA] at v1 hK ⊢
      clear hA hy hp
      simp only [Act.eval] at v1
      go_simp
      refine (pages_post (HPG.out _ hst.out) HOK.out.1).mono ?_
      rintro r w5 ⟨va, vc, bl, rfl, hbl, hsl, hb5⟩
      exact hK _ w5 ⟨hb5, va, vc, bl, rfl, hbl, hsl⟩
    · obtain ⟨va, vc, bl, e1, hbl, hsl⟩ : PgF Q (y 130) w2 := hp.out 25 (by decide)
      refine StepG.yes (b := true) (t := 128) rfl rfl rfl (by decide) (hp.out 23 (by decide)) fun K Q hK => ?_
      have v1 := (eval_frame 135 y [] (t := 130) (by decide)).trans e1
      obtain ⟨A, hA⟩ : ∃ A, (⟨frameOf 135 y, []⟩ : Act) = A := ⟨_, rfl⟩
      rw [hA] at v1 hK ⊢
      clear hA hy hp
      simp only [Act.eval] at v1
      go_simp
      refine (model_ok hsl hbl HOK.out.1 HOK.out.2 (Nat.le_refl _) (by have := HQL.out; omega)).mono ?_
      rintro r w5 ⟨a3, n3, c3, rfl, hra, hb5⟩
      exact hK _ w5 ⟨hb5, a3, n3, c3, rfl, hra⟩
    · have e1 : y 17 = .pointer (some ⟨gn, 0, none⟩) := hy.out 17 (by decide)
      have c0 := HKN.out _ hst.out
      refine StepG.yes (b := true) (t := 128) rfl rfl rfl (by decide) (hp.out 23 (by decide)) fun K Q hK => ?_
      have v1 := (eval_frame 135 y [] (t := 17) (by decide)).trans e1
      obtain ⟨A, hA⟩ : ∃ A, (⟨frameOf 135 y, []⟩ : Act) = A := ⟨_, rfl⟩
      rw [hA] at v1 hK ⊢
      clear hA hy hp
      simp only [Act.eval] at v1
      go_simp
      exact hK _ _ ⟨Stays.refl _, by first | rfl | simp [Is] | (simp [factsOf, Is]; done)⟩
    · have e2 : y 132 = .agg #[.slice a3' n3 c3] := hp.out 27 (by decide)
      obtain ⟨a4, n4, c4, e1, hra4⟩ : RaF Q (y 131) w2 := hp.out 26 (by decide)
      have hn4 : n4 = n3 := hra4.len.trans (HRN.out _ hst.out).len.symm
      subst hn4
      unfold mv at e1
      have hsm := same_ok (c := c4) (c' := c3) hra4.sl (HRN.out _ hst.out).sl (Nat.le_refl _) (by have := hra4.len; have := HQL.out; omega)
      unfold mv at hsm
      refine StepG.yes (b := true) (t := 128) rfl rfl rfl (by decide) (hp.out 23 (by decide)) fun K Q hK => ?_
      have v1 := (eval_frame 135 y [] (t := 131) (by decide)).trans e1
      have v2 := (eval_frame 135 y [] (t := 132) (by decide)).trans e2
      obtain ⟨A, hA⟩ : ∃ A, (⟨frameOf 135 y, []⟩ : Act) = A := ⟨_, rfl⟩
      rw [hA] at v1 v2 hK ⊢
      clear hA hy hp
      simp only [Act.eval] at v1 v2
      go_simp
      refine hsm.mono ?_
      rintro r w5 ⟨rfl, hb5⟩
      exact hK _ w5 ⟨hb5, rfl⟩
    · have e1 : y 128 = .bool true := hp.out 23 (by decide)
      have e2 : y 133 = .bool true := hp.out 28 (by decide)
      refine StepG.plain rfl fun K Q hK => ?_
      have v1 := (eval_frame 135 y [] (t := 128) (by decide)).trans e1
      have v2 := (eval_frame 135 y [] (t := 133) (by decide)).trans e2
      obtain ⟨A, hA⟩ : ∃ A, (⟨frameOf 135 y, []⟩ : Act) = A := ⟨_, rfl⟩
      rw [hA] at v1 v2 hK ⊢
      clear hA hy hp
      simp only [Act.eval] at v1 v2
      go_simp
      exact hK _ _ ⟨Stays.refl _, by first | rfl | simp [Is] | (simp [factsOf, Is]; done)⟩
    · have e1 : y 134 = .bool true := hp.out 29 (by decide)
      refine StepG.plain rfl fun K Q hK => ?_
      have v1 := (eval_frame 135 y [] (t := 134) (by decide)).trans e1
      obtain ⟨A, hA⟩ : ∃ A, (⟨frameOf 135 y, []⟩ : Act) = A := ⟨_, rfl⟩
      rw [hA] at v1 hK ⊢
      clear hA hy hp
      simp only [Act.eval] at v1
      go_simp
      exact hK _ _ ⟨Stays.refl _, by first | rfl | simp [Is] | (simp [factsOf, Is]; done)⟩
set_option maxRecDepth 100000 in
set_option maxHeartbeats 1600000 in
theorem walk (a0 : Int) (a1 : Int) (a2 : Int) (a3 : Int) (a4 : Int) (w : World) (w0 : (Lit.int .i64 a0).wf = true) (w1 : (Lit.int .i64 a1).wf = true) (w2 : (Lit.int .u8 a2).wf = true) (w3 : (Lit.int .i64 a3).wf = true) (w4 : (Lit.int .u64 a4).wf = true) :
    Calls Try.prog 5 #[.int .i64 a0, .int .i64 a1, .int .u8 a2, .int .i64 a3, .int .u64 a4] w fun e w' => e = .returned (.bool true) ∧ Below w.heap.size w w' := by
  exact walkAll w a0 a1 a2 a3 a4 w4

set_option maxRecDepth 100000 in
theorem lifted (os : Os) (started : os.Started) (H : Type) (enc : TypeId × Value → H) :
    ReturnsInHanded {} Try.checked os 5 .any (Rows.vmemProtSpec.pre6 enc Try.prog Try.f5 Rows.vmemProtRow.domain false) (Rows.vmemProtSpec.post enc Try.prog Try.f5 false true false false) := by
  refine returnsInHanded_of_change (C := Try.checked) own started (by kernel_rfl) Try.func5
    (ChangeSpec.witness6 (enc := enc) (C := Try.checked) false ⟨#[], #[.int .i64 0, .int .i64 0, .int .u8 0, .int .i64 0, .int .u64 0], []⟩ 8 (by kernel_rfl) (by kernel_rfl) (by kernel_rfl) (by kernel_rfl)) ?_
  intro W base args ds gs before hval0 hW hcnd _
  have hval : ∀ (j : Nat) t v, Try.f5.params[j]? = some t → args[j]? = some v → Value.okWide Try.prog W .any base t v := hval0
  have hW' := hW
  obtain ⟨p, q, hA0, hV, rfl, hfz, hnd⟩ := hW
  have hA : DataW.TrodAll enc Try.prog W 0 (fun _ => true) true Try.f5.params.toList args.toList ds p := hA0
  rw [Try.params5] at hA hval
  obtain ⟨v0, vs0, d0, ds0, p0, q0, hargs, rfl, rfl, h0, r0⟩ := trodAll_cons hA
  obtain ⟨v1, vs1, d1, ds1, p1, q1, rfl, rfl, rfl, h1, r1⟩ := trodAll_cons r0
  obtain ⟨v2, vs2, d2, ds2, p2, q2, rfl, rfl, rfl, h2, r2⟩ := trodAll_cons r1
  obtain ⟨v3, vs3, d3, ds3, p3, q3, rfl, rfl, rfl, h3, r3⟩ := trodAll_cons r2
  obtain ⟨v4, vs4, d4, ds4, p4, q4, rfl, rfl, rfl, h4, r4⟩ := trodAll_cons r3
  obtain ⟨rfl, rfl, rfl⟩ := trodAll_nil r4
  obtain rfl : args = #[v0, v1, v2, v3, v4] := by cases args; simp_all
  obtain ⟨rfl, rfl⟩ := trodVars_none hV
  obtain ⟨a0, rfl, rfl, rfl, w0⟩ := open_int Try.underlying3 (hval 0 3 v0 rfl rfl) h0
  obtain ⟨a1, rfl, rfl, rfl, w1⟩ := open_int Try.underlying3 (hval 1 3 v1 rfl rfl) h1
  obtain ⟨a2, rfl, rfl, rfl, w2⟩ := open_int Try.underlying5 (hval 2 5 v2 rfl rfl) h2
  obtain ⟨a3, rfl, rfl, rfl, w3⟩ := open_int Try.underlying3 (hval 3 3 v3 rfl rfl) h3
  obtain ⟨a4, rfl, rfl, rfl, w4⟩ := open_int Try.underlying24 (hval 4 24 v4 rfl rfl) h4
  clear hA0 hval0
  refine (walk a0 a1 a2 a3 a4 W w0 w1 w2 w3 w4).mono fun e W' ⟨he, bel⟩ => ?_
  subst he
  exact ⟨_, rfl, _, _, _, [], _, [], hW', trodAll_mk1 (shut_bool Try.underlying4 _), (trodAll_cons_mk (shut_int Try.underlying3 w0) (trodAll_cons_mk (shut_int Try.underlying3 w1) (trodAll_cons_mk (shut_int Try.underlying5 w2) (trodAll_cons_mk (shut_int Try.underlying3 w3) (trodAll_cons_mk (shut_int Try.underlying24 w4) trodAll_mk0))))), rfl, bel.frame _, fun h => by cases h⟩

theorem over : Rows.vmemProtRow.holds Try.pinned (OpenSpec.ofChange Rows.vmemProtSpec) :=
  OpenClaim.holds_of_wide 5 Try.f5 rfl rfl rfl rfl rfl rfl rfl ⟨rfl, rfl, rfl, rfl, rfl⟩ rfl rfl rfl rfl rfl (by kernel_rfl) Try.func5 (by kernel_rfl)
    (of_decide_eq_true (by kernel_rfl)) (by unfold Func.isWrapper; first | (rw [if_pos (by decide +kernel)]; kernel_rfl) | (rw [if_neg (by decide +kernel)]; exact ⟨rfl, rfl⟩))
    (fun os started H enc _ => lifted os started H enc)

theorem proved : Rows.VmemProtSaid := over
#print axioms proved
end Go.Proofs.Ytahjgbmhleiocaa.vmemProt
