/-
  What is proved here: VmemPokes: any bytes, written at any address over some pages, are there; no page counts as written to.
  Conditions: none of our own; the law's row says what its input is.
-/
import Derived.Test.YtakhkhkiahkpgaaRows
import Derived.Test.YtakhkhkiahkpgaaVmSlm
import Derived.Test.YtakhkhkiahkpgaaFWords
import Derived.Test.YtakhkhkiahkpgaaApp
import Derived.Test.YtakhkhkiahkpgaaMask
import Derived.WalkKit
import Derived.ProofKit
import Derived.OpenShut
import Derived.ShutString
import Derived.ChangeOld
import Derived.Below
namespace Go.Proofs.Ytakhkhkiahkpgaa.vmemPokes
open Go.ChangeShapes Go.WideShapes Go.ChangeAt Go.RowKit
open Go.ChangeMaps (open_string shut_string)
set_option linter.unusedVariables false

theorem own : ownKnob Try.prog.godebug = none := by kernel_rfl
theorem laidOut : laidOutB Try.prog = true := by kernel_rfl

theorem fr77 (y : Nat → Value) : frameOf 77 y = #[y 0, y 1, y 2, y 3, y 4, y 5, y 6, y 7, y 8, y 9, y 10, y 11, y 12, y 13, y 14, y 15, y 16, y 17, y 18, y 19, y 20, y 21, y 22, y 23, y 24, y 25, y 26, y 27, y 28, y 29, y 30, y 31, y 32, y 33, y 34, y 35, y 36, y 37, y 38, y 39, y 40, y 41, y 42, y 43, y 44, y 45, y 46, y 47, y 48, y 49, y 50, y 51, y 52, y 53, y 54, y 55, y 56, y 57, y 58, y 59, y 60, y 61, y 62, y 63, y 64, y 65, y 66, y 67, y 68, y 69, y 70, y 71, y 72, y 73, y 74, y 75, y 76] := rfl
theorem pages_post {M : List Pg} {w : World} {fi : Nat} {args : Array Value} (h : Calls Try.prog fi args w (PagesPost w M)) (hok : ∀ p ∈ M, p.Ok) : Calls Try.prog fi args w fun r w' => ∃ va vc bl, r = .returned (.slice va M.length vc) ∧ bl.length = M.length ∧ Vp.Sl w' w'.heap.size va M.length (vps M bl) ∧ Below w.heap.size w w' := by
  refine h.mono ?_
  rintro r w' ⟨v, bl, rfl, hbl, hrow, hbk, hb⟩
  obtain ⟨va, vc, rfl⟩ := own_slp hrow
  exact ⟨va, vc, bl, rfl, hbl, Vp.Sl.own (vps_ok hok hbl (fun k hk => (hbk k hk).2)) hrow, hb⟩
structure PEnd (W : World) (M : List Pg) (L : Nat → Bool) (y : Nat → Value) (w9 : World) : Prop where
  k : Below W.heap.size W w9
  a : L 1 = false → w9 = W.drew
  b : L 1 = true → L 2 = false → ∃ va vc bl, y 73 = .slice va M.length vc ∧ bl.length = M.length ∧ Vp.Sl w9 w9.heap.size va M.length (vps M bl)
  c : L 2 = true → L 4 = false → ∃ a n c, y 74 = mv a n c ∧ RAt w9 w9.heap.size a n c M
set_option maxRecDepth 100000 in
set_option maxHeartbeats 12800000 in
theorem walkAll (w : World) (a0 : Int) (a1 : Option Addr) (len1 cap1 : Nat) (z1 : List Int) (a2 : Int) (w0 : (Lit.int .u64 a0).wf = true) (w1 : IsRow .u8 w a1 len1 cap1 z1) (w2 : (Lit.int .i64 a2).wf = true) :
    Calls Try.prog 7 #[.int .u64 a0, .slice a1 len1 cap1, .int .i64 a2] w fun e w' => e = .returned (.bool true) ∧ Below w.heap.size w w' := by
  obtain ⟨m, hm, hand⟩ := i64_mask a2 7 (by decide)
  have hand : bits .and .i64 a2 7 = (m : Int) := hand
  obtain ⟨x0, x1⟩ : 0 ≤ a0 ∧ a0 ≤ 18446744073709551615 := by simpa [Lit.wf, IntKind.min, IntKind.max, IntKind.signed, IntKind.bits] using w0
  obtain ⟨hby, hcc, hcm⟩ := w1.bys
  generalize z1.take len1 = zs at hby
  have HY := Lib.hid hby
  have hzl : Hid (zs.length = len1) := Lib.hid hby.1
  clear w0 w1 w2 hby
  obtain ⟨X, rfl⟩ := Int.eq_ofNat_of_zero_le x0
  have hl1 : (len1 : Int) ≤ 9223372036854775807 := by omega
  have hcs := fun g w => cmp_sp g w
  by_cases hbig : 1000 < len1
  · have hbi : (1000 : Int) < len1 := by omega
    go_enter Try.func7, Try.ntmps7
    go_wp2_with fail
    refine (awake_ok w).mono ?_
    rintro r0 v0 ⟨rfl, hb⟩
    have HB := Lib.hid hb
    clear hb
    go_wp2
    go_ret
    exact ⟨rfl, HB.out⟩
  · have hbi : ¬ (1000 : Int) < len1 := by omega
    go_enter Try.func7, Try.ntmps7
    go_wp2_with fail
    refine (awake_ok w).mono ?_
    rintro r0 v0 ⟨rfl, hb⟩
    have HB := Lib.hid hb
    have HYS := Lib.hid ((HY.out.below hb).more hb.size)
    clear hb
    go_wp2_with fail
    refine (AW.new v0).mono ?_
    rintro r1 v1 ⟨rfl, H1⟩
    obtain ⟨g, hg⟩ : ∃ g, v0.heap.size = g := ⟨_, rfl⟩
    have HG := Lib.hid hg
    rw [hg] at H1 ⊢
    obtain ⟨fB, hfB⟩ : ∃ f : ByteArray, (⟨#[102]⟩ : ByteArray) = f := ⟨_, rfl⟩
    have hfs : fB.size ≤ maxLen := by rw [← hfB]; decide
    obtain ⟨gm, hgm⟩ : ∃ gm, v1.heap.size = gm := ⟨_, rfl⟩
    obtain ⟨v2, hv2⟩ : ∃ v2, v1.alloc (.cells #[.slice none 0 0] 34) = v2 := ⟨_, rfl⟩
    have hb12 : Below v1.heap.size v1 v2 := by rw [← hv2]; exact (Below.refl _ _).alloc (Nat.le_refl _) _
    have hk2 : Blk v2 gm #[.slice none 0 0] 34 := by rw [← hv2, ← hgm]; exact Blk.new _ _ _
    have H2 := Lib.hid (H1.out.later hb12)
    have HK2 := Lib.hid hk2
    have h3 := H2.out.map2 512 768 m fB 9 (by decide) (by decide) hfs (by decide) (by decide) (by decide)
    have hr3 := fun (vx : World) => rmap_ok (RAt.empty vx) (Nat.le_refl _) 512 768 m fB 9 (by decide) (by decide) hfs (by decide) (by decide)
    have hl3 := map3_len m fB 9
    obtain ⟨R, hR⟩ : ∃ R, mapR [] 512 768 m fB 9 = R := ⟨_, rfl⟩
    rw [hR] at h3 hl3
    unfold mv at hr3
    simp only [hR] at hr3
    have HM := Lib.hid h3
    have HRM := Lib.hid hr3
    have HL3 := Lib.hid hl3
    have hgg : g < gm := by rw [← hg, ← hgm]; have := H1.out.at0.sm g (by have := H1.out.at0; exact rfl); rw [hg] at *; exact this
    clear h3 hr3 hl3 hR hb12 hk2 H1 H2 hfs hg
    go_wp2_with fail
    refine HM.out.mono ?_
    rintro r3 v3 ⟨rfl, h3⟩
    obtain ⟨S, hA, hown, hfr⟩ := h3.out
    have hglt := HK2.out.lt
    have hno : ¬ S.own gm := fun ho => by
      rcases hown gm ho with h4 | h4
      · have h4 : gm = g := h4
        omega
      · omega
    have HK3 := Lib.hid (blk_same HK2.out (hfr.frm gm hglt (fun ho => by have ho : gm = g := ho; omega)))
    have H3 := Lib.hid hA
    have HNO := Lib.hid hno
    have k3 := HK3.out.cell 0
    clear h3 hA hown hfr hglt hno HM
    go_wp2_with fail
    refine (HRM.out v3).mono ?_
    rintro r4 v4 ⟨a', n', c', rfl, hra, hb4⟩
    have hk4 := HK3.out.later hb4
    have k4 := hk4.cell 0
    have f4 := hk4.frozen 0
    have hgv : v0.heap.size ≤ gm := by rw [HG.out]; omega
    obtain ⟨v5, hv5⟩ : ∃ v5, v4.setCell ⟨gm, 0, none⟩ (.slice a' n' c') = v5 := ⟨_, rfl⟩
    have h5u : AW v0 v5 S R.1 g (0 + 512) := by rw [← hv5]; exact (H3.out.later hb4).put HNO.out hgv _
    have h5 := h5u.slim
    have H5U := Lib.hid h5u.at0
    clear h5u
    have hra5 : RAt v5 v5.heap.size a' n' c' R.1 := by
      rw [← hv5, World.size_setCell]
      exact hra.setBox hk4 _
    have hk5 : Blk v5 gm #[.slice a' n' c'] 34 := by rw [← hv5]; exact hk4.put 0 _
    have hno5 : ¬ (slim S R.1).own gm := fun ho => HNO.out (slim_sub H3.out.at0 gm ho)
    have H5 := Lib.hid h5
    have HRA5 := Lib.hid hra5
    have HK5 := Lib.hid hk5
    have HNO5 := Lib.hid hno5
    have h6 := h5.poke X (by omega) zs a1 len1 cap1 HYS.out hcc (by omega) (by omega)
    obtain ⟨Q, hQ⟩ : ∃ Q, rpokeR false R.1 X zs = Q := ⟨_, rfl⟩
    have hrl := rpoke_len false R.1 X zs
    have hpk := fun hN => poke_peek (M := R.1) (x := X) (bs := zs) h5.at0.ok hN
    rw [← poke_both, hQ] at h6
    rw [hQ] at hrl
    simp only [hQ] at hpk
    have H6 := Lib.hid h6
    have HPK := Lib.hid hpk
    have HQL : Hid (Q.1.length ≤ 3) := Lib.hid (by rw [hrl]; exact HL3.out)
    have HQ := Lib.hid hQ
    clear hra hb4 hk4 h5 hra5 hk5 hno5 h6 hrl hpk hQ k3 H3 HK3 HRM HL3
    go_wp2_with fail
    refine H6.out.mono ?_
    rintro r6 v6 ⟨rfl, h6⟩
    obtain ⟨hA6, ht6⟩ := h6.out
    have H7 := Lib.hid hA6
    have hb56 : Below v0.heap.size v5 v6 := ht6.below H5.out.bel.size (fun k hk ho => by have := H5.out.own k ho; omega)
    have hk6 := blk_same HK5.out (ht6.block gm HK5.out.lt HNO5.out)
    have hra6 := (HRA5.out.turn (S := S) (N := R.1) H5U.out ht6 (Nat.le_refl _)).more ht6.size
    have hy6 := (HYS.out.below H7.out.bel).more H7.out.bel.size
    have HK6 := Lib.hid hk6
    have hrp := rpoke_ok hra6 (Nat.le_refl _) X (by omega) zs a1 len1 cap1 hy6 hcc hcm (by omega) false
    rw [HQ.out] at hrp
    unfold mv at hrp
    have HRP := Lib.hid hrp
    have k6 := hk6.cell 0
    have HPQ := Lib.hid (HPK.out hA6.at0.ok)
    clear h6 hA6 ht6 hb56 hk6 hra6 hy6 hrp k4 f4 hv5 H6 HPK
    go_wp2_with fail
    refine HRP.out.mono ?_
    rintro r7 v7 ⟨a2', n2, c2, rfl, hra7, hb7⟩
    obtain ⟨gn, hgn⟩ : ∃ gn, v7.heap.size = gn := ⟨_, rfl⟩
    obtain ⟨v8, hv8⟩ : ∃ v8, (v7.alloc (.cells #[.slice none 0 0] 34)).setCell ⟨gn, 0, none⟩ (.slice a2' n2 c2) = v8 := ⟨_, rfl⟩
    have hb78 : Below v7.heap.size v7 v8 := by rw [← hv8]; exact ((Below.refl _ _).alloc (Nat.le_refl _) _).setCell (p := ⟨gn, 0, none⟩) (by show v7.heap.size ≤ gn; omega) _
    have hk8 : Blk v8 gn #[.slice a2' n2 c2] 34 := by rw [← hv8, ← hgn]; exact (Blk.new v7 #[.slice none 0 0] 34).put 0 _
    have H9 := Lib.hid ((H7.out.later hb7).later hb78)
    have HK8 := Lib.hid hk8
    have HRA8 := Lib.hid ((hra7.below hb78).more hb78.size)
    have hgnl : gn < v8.heap.size := hk8.lt
    have HPE := Lib.hid (aw_peek ((H7.out.later hb7).later hb78) X len1 (by omega) (by omega))
    clear hra7 hb7 hb78 hk8 HRP
    go_wp2_with fail
    refine HPE.out.mono ?_
    rintro r9 v9 ⟨vb, rfl, hrow, hb9⟩
    obtain ⟨p1, p2, p3⟩ := HPQ.out
    rw [hzl.out] at p1 p2
    rw [p1]
    obtain ⟨va, vc, rfl⟩ := own_slp hrow
    have HQO := Lib.hid ((H9.out.later hb9).at0)
    have hbd9 : Below v9.heap.size v9 v9.drew := (Below.refl _ _).drew
    have HPG := Lib.hid (((H9.out.later hb9).later hbd9).pages (by have := HQL.out; omega))
    have HRN : Hid (∀ wx, Below v9.heap.size v9 wx → RAt wx wx.heap.size a2' n2 c2 Q.1) := Lib.hid (fun wx hx => (((HRA8.out.below hb9).more hb9.size).below hx).more hx.size)
    have HKN : Hid (∀ wx, Below v9.heap.size v9 wx → wx.cell? ⟨gn, 0, none⟩ = some (.slice a2' n2 c2)) := Lib.hid (fun wx hx => ((HK8.out.later hb9).later hx).cell 0)
    have HBE := Lib.hid ((H9.out.later hb9).bel)
    have hy9 := ((HYS.out.below ((H9.out.later hb9).bel))).conv cap1
    obtain ⟨Q2, hQ2⟩ : ∃ q, Q.2 = q := ⟨_, rfl⟩
    rw [hQ2] at p2 p3 ⊢
    clear hb9 hbd9 hgnl hv8 hQ2 HPE H7 p1
    rcases p3 with rfl | rfl
    · have hpz := p2 rfl
      rw [hpz] at hrow ⊢
      have hcv := (Bys.own HY.out.2.1 (by rw [hzl.out] at hrow; exact hrow)).conv vc
      rw [hzl.out]
      generalize strOfNums zs = SS at hcv hy9
      clear hrow hpz p2
      go_wp2_with fail
      refine wp_region_a (by kernel_rfl) 77 rfl [72, 73, 74, 75, 76, 6] (fun _ _ => True) (factsOf [Is (.pointer (some ⟨g, 0, none⟩)), AnyB, AnyB, Is (.agg #[.slice a2' n2 c2]), Is (.bool true), Is (.bool true)]) (JA [1, 2, 4] [73, 74] (PEnd v9 Q.1)) ?mono15 ?hj15 (by kernel_rfl) ?start15 ?steps15 ?fin15
      case mono15 => exact factsOf_monoR (monoR_cons (Is.monoR _ _) (monoR_cons (AnyB.monoR _) (monoR_cons (AnyB.monoR _) (monoR_cons (Is.monoR _ _) (monoR_cons (Is.monoR _ _) (monoR_cons (Is.monoR _ _) (monoR_nil _)))))))
      case hj15 => exact JA.congr (by decide)
      case start15 =>
        refine JA.of fun L' y' h1 h2 => ?_
        exact ⟨(Below.refl _ _).drew, fun _ => rfl, (fun h => by rw [h1 1 (by decide)] at h; cases h), (fun h => by rw [h1 2 (by decide)] at h; cases h)⟩
      case fin15 =>
        intro y L w9 hJ hall hF hT
        have hP := hJ.out
        have f6 : y 6 = .bool true := hF 5 (by decide) (by decide)
        clear hJ hF
        have hbE := hP.k
        clear hP hall hT
        rw [fr77]
        simp only [f6]
        go_wp2
        go_ret
        exact ⟨rfl, HB.out.trans ((HBE.out.trans (hbE.mono HBE.out.size)).mono HB.out.size)⟩
      case steps15 =>
        refine ⟨?_, ?_, ?_, ?_, ?_, ?_, trivial⟩
        all_goals intro L y w9 hJ hL hy0 hp0 hcl hun
        all_goals have hy := Lib.hid hy0
        all_goals have hp := Lib.hid hp0
        all_goals have HJ := Lib.hid hJ
        all_goals have HP := Lib.hid hJ.out
        all_goals have hU := Lib.hid hun
        all_goals clear hy0 hp0 hun hJ
        · have e1 : y 8 = .pointer (some ⟨g, 0, none⟩) := hy.out 8 (by decide)
          intro K Q hK
          clear hcl hL
          have v1 := (eval_frame 77 y [] (t := 8) (by decide)).trans e1
          obtain ⟨A, hA⟩ : ∃ A, (⟨frameOf 77 y, []⟩ : Act) = A := ⟨_, rfl⟩
          rw [hA] at v1 hK ⊢
          clear hA hy hp
          simp only [Act.eval] at v1
          go_simp
          exact hK _ _ ⟨trivial, fun _ => rfl, HJ.out.pure (by decide) (by decide)⟩
        · have e1 : y 72 = .pointer (some ⟨g, 0, none⟩) := (hp.out 0 (by decide)).2 (by decide)
          have hN1 : L 1 = false := hL
          have hN2 : L 2 = false := by
            cases h : L 2 with
            | false => rfl
            | true => have := (hcl 2 _ rfl h 1 (by decide)); rw [hL] at this; cases this
          have hN4 : L 4 = false := by
            cases h : L 4 with
            | false => rfl
            | true => have := (hcl 2 _ rfl (hcl 4 _ rfl h 2 (by decide)) 1 (by decide)); rw [hL] at this; cases this
          obtain rfl := HP.out.a hN1
          intro K Q hK
          clear hcl hL
          have v1 := (eval_frame 77 y [] (t := 72) (by decide)).trans e1
          obtain ⟨A, hA⟩ : ∃ A, (⟨frameOf 77 y, []⟩ : Act) = A := ⟨_, rfl⟩
          rw [hA] at v1 hK ⊢
          clear hA hy hp
          simp only [Act.eval] at v1
          go_simp
          refine (pages_post HPG.out HQO.out.ok).mono ?_
          rintro r w5 ⟨va, vc, bl, rfl, hbl, hsl, hb5⟩
          exact hK _ _ ⟨trivial, fun _ => trivial, JA.step fun L' y' h1 h2 h3 h4 => ⟨HP.out.k.trans (hb5.mono HP.out.k.size), (fun h => by rw [h2 (by decide)] at h; cases h), fun _ _ => ⟨va, vc, bl, h4 (by decide), hbl, hsl⟩, (fun h => by rw [h1 2 (by decide) (by decide), hN2] at h; cases h)⟩⟩
        · have hL1 : L 1 = true := (hp.out 1 (by decide)).1
          obtain ⟨va, vc, bl, e1, hbl, hsl⟩ := HP.out.b hL1 hL
          have hN4 : L 4 = false := by
            cases h : L 4 with
            | false => rfl
            | true => have := (hcl 4 _ rfl h 2 (by decide)); rw [hL] at this; cases this
          have hsl2 := Lib.hid hsl
          have hbl2 := Lib.hid hbl
          intro K Q hK
          clear hcl hL
          have v1 := (eval_frame 77 y [] (t := 73) (by decide)).trans e1
          obtain ⟨A, hA⟩ : ∃ A, (⟨frameOf 77 y, []⟩ : Act) = A := ⟨_, rfl⟩
          rw [hA] at v1 hK ⊢
          clear hA hy hp
          simp only [Act.eval] at v1
          go_simp
          refine (model_ok hsl2.out hbl2.out HQO.out.ok HQO.out.so (Nat.le_refl _) (by have := HQL.out; omega)).mono ?_
          rintro r w5 ⟨a3, n3, c3, rfl, hra, hb5⟩
          exact hK _ _ ⟨trivial, fun _ => trivial, JA.step fun L' y' h1 h2 h3 h4 => ⟨HP.out.k.trans (hb5.mono HP.out.k.size), (fun h => by rw [h1 1 (by decide) (by decide), hL1] at h; cases h), (fun _ h => by rw [h2 (by decide)] at h; cases h), fun _ _ => ⟨a3, n3, c3, h4 (by decide), hra⟩⟩⟩
        · have e1 : y 11 = .pointer (some ⟨gn, 0, none⟩) := hy.out 11 (by decide)
          have q0 : w9.cell? ⟨gn, 0, none⟩ = some (.slice a2' n2 c2) := (fun (_ : Nat) => HKN.out _ HP.out.k) 0
          intro K Q hK
          clear hcl hL
          have v1 := (eval_frame 77 y [] (t := 11) (by decide)).trans e1
          obtain ⟨A, hA⟩ : ∃ A, (⟨frameOf 77 y, []⟩ : Act) = A := ⟨_, rfl⟩
          rw [hA] at v1 hK ⊢
          clear hA hy hp
          simp only [Act.eval] at v1
          go_simp
          exact hK _ _ ⟨trivial, fun _ => rfl, HJ.out.pure (by decide) (by decide)⟩
        · have hL2 : L 2 = true := (hp.out 2 (by decide)).1
          obtain ⟨a3, n3, c3, e1, hra3⟩ := HP.out.c hL2 hL
          have e2 : y 75 = .agg #[.slice a2' n2 c2] := (hp.out 3 (by decide)).2 (by decide)
          have hn3 : n3 = n2 := hra3.len.trans HRA8.out.len.symm
          subst hn3
          have hsl3 := Lib.hid hra3.sl
          have hsl4 := Lib.hid ((HRN.out _ HP.out.k).sl)
          have hle3 : n3 ≤ 1000 := by have := hra3.len; have := HQL.out; omega
          unfold mv at e1
          have hL1 : L 1 = true := hcl 2 _ rfl hL2 1 (by decide)
          intro K Q hK
          clear hcl hL
          have v1 := (eval_frame 77 y [] (t := 74) (by decide)).trans e1
          have v2 := (eval_frame 77 y [] (t := 75) (by decide)).trans e2
          obtain ⟨A, hA⟩ : ∃ A, (⟨frameOf 77 y, []⟩ : Act) = A := ⟨_, rfl⟩
          rw [hA] at v1 v2 hK ⊢
          clear hA hy hp
          simp only [Act.eval] at v1 v2
          go_simp
          have hsm := same_ok (c := c3) (c' := c2) hsl3.out hsl4.out (Nat.le_refl _) hle3
          unfold mv at hsm
          refine hsm.mono ?_
          rintro r w5 ⟨rfl, hb5⟩
          exact hK _ _ ⟨trivial, fun _ => rfl, JA.step fun L' y' h1 h2 h3 h4 => ⟨HP.out.k.trans (hb5.mono HP.out.k.size), (fun h => by rw [h1 1 (by decide) (by decide), hL1] at h; cases h), (fun _ h => by rw [h1 2 (by decide) (by decide), hL2] at h; cases h), (fun _ h => by rw [h2 (by decide)] at h; cases h)⟩⟩
        · have e1 : y 76 = .bool true := (hp.out 4 (by decide)).2 (by decide)
          intro K Q hK
          clear hcl hL
          have v1 := (eval_frame 77 y [] (t := 76) (by decide)).trans e1
          obtain ⟨A, hA⟩ : ∃ A, (⟨frameOf 77 y, []⟩ : Act) = A := ⟨_, rfl⟩
          rw [hA] at v1 hK ⊢
          clear hA hy hp
          simp only [Act.eval] at v1
          go_simp
          exact hK _ _ ⟨trivial, fun _ => rfl, HJ.out.pure (by decide) (by decide)⟩
    · clear hrow p2 hy9
      go_wp2_with fail
      refine wp_region_a (by kernel_rfl) 77 rfl [72, 73, 74, 75, 76, 6] (fun _ _ => True) (factsOf [Is (.pointer (some ⟨g, 0, none⟩)), AnyB, AnyB, Is (.agg #[.slice a2' n2 c2]), Is (.bool true), Is (.bool true)]) (JA [1, 2, 4] [73, 74] (PEnd v9 Q.1)) ?mono15 ?hj15 (by kernel_rfl) ?start15 ?steps15 ?fin15
      case mono15 => exact factsOf_monoR (monoR_cons (Is.monoR _ _) (monoR_cons (AnyB.monoR _) (monoR_cons (AnyB.monoR _) (monoR_cons (Is.monoR _ _) (monoR_cons (Is.monoR _ _) (monoR_cons (Is.monoR _ _) (monoR_nil _)))))))
      case hj15 => exact JA.congr (by decide)
      case start15 =>
        refine JA.of fun L' y' h1 h2 => ?_
        exact ⟨(Below.refl _ _).drew, fun _ => rfl, (fun h => by rw [h1 1 (by decide)] at h; cases h), (fun h => by rw [h1 2 (by decide)] at h; cases h)⟩
      case fin15 =>
        intro y L w9 hJ hall hF hT
        have hP := hJ.out
        have f6 : y 6 = .bool true := hF 5 (by decide) (by decide)
        clear hJ hF
        have hbE := hP.k
        clear hP hall hT
        rw [fr77]
        simp only [f6]
        go_wp2
        go_ret
        exact ⟨rfl, HB.out.trans ((HBE.out.trans (hbE.mono HBE.out.size)).mono HB.out.size)⟩
      case steps15 =>
        refine ⟨?_, ?_, ?_, ?_, ?_, ?_, trivial⟩
        all_goals intro L y w9 hJ hL hy0 hp0 hcl hun
        all_goals have hy := Lib.hid hy0
        all_goals have hp := Lib.hid hp0
        all_goals have HJ := Lib.hid hJ
        all_goals have HP := Lib.hid hJ.out
        all_goals have hU := Lib.hid hun
        all_goals clear hy0 hp0 hun hJ
        · have e1 : y 8 = .pointer (some ⟨g, 0, none⟩) := hy.out 8 (by decide)
          intro K Q hK
          clear hcl hL
          have v1 := (eval_frame 77 y [] (t := 8) (by decide)).trans e1
          obtain ⟨A, hA⟩ : ∃ A, (⟨frameOf 77 y, []⟩ : Act) = A := ⟨_, rfl⟩
          rw [hA] at v1 hK ⊢
          clear hA hy hp
          simp only [Act.eval] at v1
          go_simp
          exact hK _ _ ⟨trivial, fun _ => rfl, HJ.out.pure (by decide) (by decide)⟩
        · have e1 : y 72 = .pointer (some ⟨g, 0, none⟩) := (hp.out 0 (by decide)).2 (by decide)
          have hN1 : L 1 = false := hL
          have hN2 : L 2 = false := by
            cases h : L 2 with
            | false => rfl
            | true => have := (hcl 2 _ rfl h 1 (by decide)); rw [hL] at this; cases this
          have hN4 : L 4 = false := by
            cases h : L 4 with
            | false => rfl
            | true => have := (hcl 2 _ rfl (hcl 4 _ rfl h 2 (by decide)) 1 (by decide)); rw [hL] at this; cases this
          obtain rfl := HP.out.a hN1
          intro K Q hK
          clear hcl hL
          have v1 := (eval_frame 77 y [] (t := 72) (by decide)).trans e1
          obtain ⟨A, hA⟩ : ∃ A, (⟨frameOf 77 y, []⟩ : Act) = A := ⟨_, rfl⟩
          rw [hA] at v1 hK ⊢
          clear hA hy hp
          simp only [Act.eval] at v1
          go_simp
          refine (pages_post HPG.out HQO.out.ok).mono ?_
          rintro r w5 ⟨va, vc, bl, rfl, hbl, hsl, hb5⟩
          exact hK _ _ ⟨trivial, fun _ => trivial, JA.step fun L' y' h1 h2 h3 h4 => ⟨HP.out.k.trans (hb5.mono HP.out.k.size), (fun h => by rw [h2 (by decide)] at h; cases h), fun _ _ => ⟨va, vc, bl, h4 (by decide), hbl, hsl⟩, (fun h => by rw [h1 2 (by decide) (by decide), hN2] at h; cases h)⟩⟩
        · have hL1 : L 1 = true := (hp.out 1 (by decide)).1
          obtain ⟨va, vc, bl, e1, hbl, hsl⟩ := HP.out.b hL1 hL
          have hN4 : L 4 = false := by
            cases h : L 4 with
            | false => rfl
            | true => have := (hcl 4 _ rfl h 2 (by decide)); rw [hL] at this; cases this
          have hsl2 := Lib.hid hsl
          have hbl2 := Lib.hid hbl
          intro K Q hK
          clear hcl hL
          have v1 := (eval_frame 77 y [] (t := 73) (by decide)).trans e1
          obtain ⟨A, hA⟩ : ∃ A, (⟨frameOf 77 y, []⟩ : Act) = A := ⟨_, rfl⟩
          rw [hA] at v1 hK ⊢
          clear hA hy hp
          simp only [Act.eval] at v1
          go_simp
          refine (model_ok hsl2.out hbl2.out HQO.out.ok HQO.out.so (Nat.le_refl _) (by have := HQL.out; omega)).mono ?_
          rintro r w5 ⟨a3, n3, c3, rfl, hra, hb5⟩
          exact hK _ _ ⟨trivial, fun _ => trivial, JA.step fun L' y' h1 h2 h3 h4 => ⟨HP.out.k.trans (hb5.mono HP.out.k.size), (fun h => by rw [h1 1 (by decide) (by decide), hL1] at h; cases h), (fun _ h => by rw [h2 (by decide)] at h; cases h), fun _ _ => ⟨a3, n3, c3, h4 (by decide), hra⟩⟩⟩
        · have e1 : y 11 = .pointer (some ⟨gn, 0, none⟩) := hy.out 11 (by decide)
          have q0 : w9.cell? ⟨gn, 0, none⟩ = some (.slice a2' n2 c2) := (fun (_ : Nat) => HKN.out _ HP.out.k) 0
          intro K Q hK
          clear hcl hL
          have v1 := (eval_frame 77 y [] (t := 11) (by decide)).trans e1
          obtain ⟨A, hA⟩ : ∃ A, (⟨frameOf 77 y, []⟩ : Act) = A := ⟨_, rfl⟩
          rw [hA] at v1 hK ⊢
          clear hA hy hp
          simp only [Act.eval] at v1
          go_simp
          exact hK _ _ ⟨trivial, fun _ => rfl, HJ.out.pure (by decide) (by decide)⟩
        · have hL2 : L 2 = true := (hp.out 2 (by decide)).1
          obtain ⟨a3, n3, c3, e1, hra3⟩ := HP.out.c hL2 hL
          have e2 : y 75 = .agg #[.slice a2' n2 c2] := (hp.out 3 (by decide)).2 (by decide)
          have hn3 : n3 = n2 := hra3.len.trans HRA8.out.len.symm
          subst hn3
          have hsl3 := Lib.hid hra3.sl
          have hsl4 := Lib.hid ((HRN.out _ HP.out.k).sl)
          have hle3 : n3 ≤ 1000 := by have := hra3.len; have := HQL.out; omega
          unfold mv at e1
          have hL1 : L 1 = true := hcl 2 _ rfl hL2 1 (by decide)
          intro K Q hK
          clear hcl hL
          have v1 := (eval_frame 77 y [] (t := 74) (by decide)).trans e1
          have v2 := (eval_frame 77 y [] (t := 75) (by decide)).trans e2
          obtain ⟨A, hA⟩ : ∃ A, (⟨frameOf 77 y, []⟩ : Act) = A := ⟨_, rfl⟩
          rw [hA] at v1 v2 hK ⊢
          clear hA hy hp
          simp only [Act.eval] at v1 v2
          go_simp
          have hsm := same_ok (c := c3) (c' := c2) hsl3.out hsl4.out (Nat.le_refl _) hle3
          unfold mv at hsm
          refine hsm.mono ?_
          rintro r w5 ⟨rfl, hb5⟩
          exact hK _ _ ⟨trivial, fun _ => rfl, JA.step fun L' y' h1 h2 h3 h4 => ⟨HP.out.k.trans (hb5.mono HP.out.k.size), (fun h => by rw [h1 1 (by decide) (by decide), hL1] at h; cases h), (fun _ h => by rw [h1 2 (by decide) (by decide), hL2] at h; cases h), (fun _ h => by rw [h2 (by decide)] at h; cases h)⟩⟩
        · have e1 : y 76 = .bool true := (hp.out 4 (by decide)).2 (by decide)
          intro K Q hK
          clear hcl hL
          have v1 := (eval_frame 77 y [] (t := 76) (by decide)).trans e1
          obtain ⟨A, hA⟩ : ∃ A, (⟨frameOf 77 y, []⟩ : Act) = A := ⟨_, rfl⟩
          rw [hA] at v1 hK ⊢
          clear hA hy hp
          simp only [Act.eval] at v1
          go_simp
          exact hK _ _ ⟨trivial, fun _ => rfl, HJ.out.pure (by decide) (by decide)⟩
set_option maxRecDepth 100000 in
set_option maxHeartbeats 1600000 in
theorem walk (a0 : Int) (a1 : Option Addr) (len1 cap1 : Nat) (z1 : List Int) (a2 : Int) (w : World) (w0 : (Lit.int .u64 a0).wf = true) (w1 : IsRow .u8 w a1 len1 cap1 z1) (w2 : (Lit.int .i64 a2).wf = true) :
    Calls Try.prog 7 #[.int .u64 a0, .slice a1 len1 cap1, .int .i64 a2] w fun e w' => e = .returned (.bool true) ∧ Below w.heap.size w w' := by
  exact walkAll w a0 a1 len1 cap1 z1 a2 w0 w1 w2

set_option maxRecDepth 100000 in
theorem lifted (os : Os) (started : os.Started) (H : Type) (enc : TypeId × Value → H) :
    ReturnsInHanded {} Try.checked os 7 .any (Rows.vmemPokesSpec.pre6 enc Try.prog Try.f7 Rows.vmemPokesRow.domain false) (Rows.vmemPokesSpec.post enc Try.prog Try.f7 false true false false) := by
  refine returnsInHanded_of_change (C := Try.checked) own started (by kernel_rfl) Try.func7
    (ChangeSpec.witness6 (enc := enc) (C := Try.checked) false ⟨#[], #[.int .u64 0, .slice none 0 0, .int .i64 0], []⟩ 8 (by kernel_rfl) (by kernel_rfl) (by kernel_rfl) (by kernel_rfl)) ?_
  intro W base args ds gs before hval0 hW hcnd _
  have hval : ∀ (j : Nat) t v, Try.f7.params[j]? = some t → args[j]? = some v → Value.okWide Try.prog W .any base t v := hval0
  have hW' := hW
  obtain ⟨p, q, hA0, hV, rfl, hfz, hnd⟩ := hW
  have hA : DataW.TrodAll enc Try.prog W 0 (fun _ => true) true Try.f7.params.toList args.toList ds p := hA0
  rw [Try.params7] at hA hval
  obtain ⟨v0, vs0, d0, ds0, p0, q0, hargs, rfl, rfl, h0, r0⟩ := trodAll_cons hA
  obtain ⟨v1, vs1, d1, ds1, p1, q1, rfl, rfl, rfl, h1, r1⟩ := trodAll_cons r0
  obtain ⟨v2, vs2, d2, ds2, p2, q2, rfl, rfl, rfl, h2, r2⟩ := trodAll_cons r1
  obtain ⟨rfl, rfl, rfl⟩ := trodAll_nil r2
  obtain rfl : args = #[v0, v1, v2] := by cases args; simp_all
  obtain ⟨rfl, rfl⟩ := trodVars_none hV
  obtain ⟨a0, rfl, rfl, rfl, w0⟩ := open_int Try.underlying24 (hval 0 24 v0 rfl rfl) h0
  obtain ⟨a1, len1, cap1, rfl⟩ := okWide_slice Try.underlying25 (hval 1 25 v1 rfl rfl)
  have k1 := h1
  have lt1 : ∀ x ∈ p1, x.block < W.heap.size := by obtain ⟨m, hm⟩ := k1; exact DataW.trod_lt m _ _ _ hm
  obtain ⟨z1, w1⟩ : ∃ zs, IsRow .u8 W a1 len1 cap1 zs := by
    obtain ⟨fuel, hf⟩ := h1
    rcases open_ints Try.underlying25 Try.underlying5 (by kernel_rfl) hf with ⟨hcs, _⟩ | ⟨x, l, c, zs, hcs, _, hl, hm, hz, _, hcell, hwz⟩
    · simp [Value.cells] at hcs
      obtain ⟨rfl, rfl, rfl⟩ := hcs
      exact ⟨[], .inl ⟨rfl, rfl, rfl, rfl⟩⟩
    · simp [Value.cells] at hcs
      obtain ⟨rfl, rfl, rfl⟩ := hcs
      exact ⟨zs, .inr ⟨_, rfl, hl, hm, by simpa using hz, hcell, hwz⟩⟩
  obtain ⟨a2, rfl, rfl, rfl, w2⟩ := open_int Try.underlying3 (hval 2 3 v2 rfl rfl) h2
  clear hA0 hval0
  refine (walk a0 a1 len1 cap1 z1 a2 W w0 w1 w2).mono fun e W' ⟨he, bel⟩ => ?_
  subst he
  exact ⟨_, rfl, _, _, _, [], _, [], hW', trodAll_mk1 (shut_bool Try.underlying4 _), (trodAll_cons_mk (shut_int Try.underlying24 w0) (trodAll_cons_mk (Below.trod laidOut (by kernel_rfl) (of_decide_eq_true (by kernel_rfl)) k1 bel lt1) (trodAll_cons_mk (shut_int Try.underlying3 w2) trodAll_mk0))), rfl, bel.frame _, fun h => by cases h⟩

theorem over : Rows.vmemPokesRow.holds Try.pinned (OpenSpec.ofChange Rows.vmemPokesSpec) :=
  OpenClaim.holds_of_wide 7 Try.f7 rfl rfl rfl rfl rfl rfl rfl ⟨rfl, rfl, rfl, rfl, rfl⟩ rfl rfl rfl rfl rfl (by kernel_rfl) Try.func7 (by kernel_rfl)
    (of_decide_eq_true (by kernel_rfl)) (by unfold Func.isWrapper; first | (rw [if_pos (by decide +kernel)]; kernel_rfl) | (rw [if_neg (by decide +kernel)]; exact ⟨rfl, rfl⟩))
    (fun os started H enc _ => lifted os started H enc)

theorem proved : Rows.VmemPokesSaid := over
#print axioms proved
end Go.Proofs.Ytakhkhkiahkpgaa.vmemPokes
