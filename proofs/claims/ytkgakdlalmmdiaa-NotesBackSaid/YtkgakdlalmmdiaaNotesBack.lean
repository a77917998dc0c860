/-
  What is proved here: NotesBack: what is put is got, in new memory; what is got is put as it was.
  Conditions: none of our own; the law's row says what its input is.
-/
import Derived.Test.YtkgakdlalmmdiaaRows
import Derived.Test.YtkgakdlalmmdiaaNotEnd
import Derived.Test.YtkgakdlalmmdiaaNotFrame
import Derived.Test.YtkgakdlalmmdiaaApp
import Derived.WalkKit
import Derived.ProofKit
import Derived.OpenShut
import Derived.ShutString
import Derived.ChangeOld
import Derived.Below
namespace Go.Proofs.Ytkgakdlalmmdiaa.notesBack
open Go.ChangeShapes Go.WideShapes Go.ChangeAt Go.RowKit
open Go.ChangeMaps (open_string shut_string)
set_option linter.unusedVariables false

theorem own : ownKnob Try.prog.godebug = none := by kernel_rfl
theorem laidOut : laidOutB Try.prog = true := by kernel_rfl

set_option maxRecDepth 100000 in
set_option maxHeartbeats 1600000 in
theorem walk (a0 : Option Addr) (len0 cap0 : Nat) (z0 : List Nt) (a1 : Option Addr) (len1 cap1 : Nat) (z1 : List Int) (w : World) (w0 : Nt.Is w a0 len0 cap0 z0) (w1 : IsRow .u8 w a1 len1 cap1 z1) :
    Calls Try.prog 6 #[.slice a0 len0 cap0, .slice a1 len1 cap1] w fun e w' => e = .returned (.bool true) ∧ Below w.heap.size w w' := by
  obtain ⟨hs, hcap, hcm⟩ := w0.sl
  generalize z0.take len0 = L at hs
  have HS := Lib.hid hs
  clear w0 hs
  obtain ⟨hs1, hcap1, hcm1⟩ := w1.bys
  generalize z1.take len1 = ZB at hs1
  have HS1 := Lib.hid hs1
  clear w1 hs1
  go_enter Try.func6, Try.ntmps6
  go_wp2_with fail
  refine (awake_any _).mono ?_
  rintro r v1 ⟨rfl, hb1⟩
  have HB1 := Lib.hid hb1
  clear hb1
  obtain ⟨fb, hfb⟩ : ∃ fb, fewN L = fb := ⟨_, rfl⟩
  have HF := few8_any w.heap.size a0 len0 cap0 L v1 (HS.out.below HB1.out) (by omega)
  rw [hfb] at HF
  have HF := Lib.hid HF
  have HFE : Hid (fb = true → len0 ≤ 20 ∧ (flatN (L.map Nt.nd)).length ≤ 900000 ∧ ∀ s ∈ L, s.de.n ≤ 500) := Lib.hid (fun e => few_end HS.out (hfb.trans e))
  clear hfb
  go_wp2_with fail
  refine HF.out.mono ?_
  rintro r v2 ⟨rfl, rfl⟩
  clear HF
  cases fb with
  | false =>
    go_wp2
    go_ret
    exact ⟨rfl, HB1.out⟩
  | true =>
    by_cases h5k : 5000 < len1
    · have h5i : (5000 : Int) < len1 := by omega
      go_wp2
      go_ret
      exact ⟨rfl, HB1.out⟩
    · have h5i : (len1 : Int) ≤ 5000 := by omega
      obtain ⟨hf1, hf2, -⟩ := HFE.out rfl
      have HP := Lib.hid (nput_any w.heap.size a0 len0 cap0 L v1 (HS.out.below HB1.out) HB1.out.size (by omega) hf2 hcap hcm)
      have HBD := Lib.hid (putN_bd HS.out.nds)
      have HMO := Lib.hid (fun w1 (h1 : Below w.heap.size w w1) => model8_any w.heap.size a0 len0 cap0 L w1 (HS.out.below h1) h1.size (by omega))
      have HGP : Hid ((putN (L.map Nt.nd)).1 = 0 → getN (putN (L.map Nt.nd)).2 = (0, L.map Nt.nd)) := Lib.hid (fun h => by
        obtain ⟨h1, h2⟩ := getN_put HS.out.nds h
        rw [h1]; exact h2)
      have HLL := Lib.hid HS.out.hl
      generalize putN (L.map Nt.nd) = Z at HP HBD HGP
      obtain ⟨te, zs⟩ := Z
      simp only at HBD HGP
      clear hf2 HFE
      go_wp2_with fail
      refine HP.out.mono ?_
      rintro r v3 ⟨⟨u, rfl, ho⟩, hb3⟩
      obtain ⟨ba, bc, rfl, hbc1, hbc2, hm3⟩ := Rw.own ho HBD.out
      have HB3 := Lib.hid (HB1.out.trans (hb3.mono HB1.out.size))
      have HG := nget_any _ ba _ bc zs v3 hm3 (Nat.le_refl _) hbc1 hbc2
      by_cases hte : te = 0
      · rw [HGP.out hte] at HG
        have HG := Lib.hid HG
        subst hte
        clear ho hb3 hm3 HP HGP
        go_wp2_with fail
        refine HG.out.mono ?_
        rintro r v4 ⟨⟨la, lc, M, rfl, hlc2, hlc1, hsl, hM⟩, hb4⟩
        have hM2 : M.length = len0 := by have := congrArg List.length hM; rw [List.length_map, List.length_map, HLL.out] at this; exact this
        rw [hM2] at hsl hlc1
        have HSL := Lib.hid hsl
        have HM : Hid (M.map Nt.nd = L.map Nt.nd) := Lib.hid hM
        have HB4 := Lib.hid (HB3.out.trans (hb4.mono HB3.out.size))
        clear hsl hM hb4 HG
        go_wp2_with fail
        refine (model8_any _ la len0 lc M v4 HSL.out (Nat.le_refl _) (by omega)).mono ?_
        rintro r v5 ⟨⟨ua, uc, rfl, huc1, huc2, hsu⟩, hb5⟩
        have HSU := Lib.hid hsu
        have HB5 := Lib.hid (HB4.out.trans (hb5.mono HB4.out.size))
        clear hsu hb5 HSL
        go_wp2_with fail
        refine (HMO.out v5 HB5.out).mono ?_
        rintro r v6 ⟨⟨ra, rc, rfl, hrc1, hrc2, hsr⟩, hb6⟩
        have HSR := Lib.hid hsr
        have HSU6 := Lib.hid ((HSU.out.below hb6).more hb6.size)
        have HB6 := Lib.hid (HB5.out.trans (hb6.mono HB5.out.size))
        clear hsr hb6 HSU
        go_wp2_with fail
        refine (same8_any _ ua ra len0 uc len0 rc M L v6 true HSU6.out HSR.out (Nat.le_refl _) (by omega) (by omega) ⟨fun _ => HM.out, fun _ => rfl⟩).mono ?_
        rintro r v7 ⟨rfl, hb7⟩
        have HB7 := Lib.hid (HB6.out.trans (hb7.mono HB6.out.size))
        clear hb7 HM HSU6 HSR HMO HLL
        have HG2 := Lib.hid (nget_any w.heap.size a1 len1 cap1 ZB v7 (HS1.out.below HB7.out) HB7.out.size hcap1 hcm1)
        by_cases hg0 : (getN ZB).1 = 0
        · have HE2 := Lib.hid (fun M h => get_end (M := M) HS1.out.2.1 hg0 h)
          have HZL := Lib.hid HS1.out.1
          generalize getN ZB = Z2 at HG2 hg0 HE2
          obtain ⟨ge, D2⟩ := Z2
          simp only at hg0 HE2
          subst hg0
          go_wp2_with fail
          refine HG2.out.mono ?_
          rintro r x1 ⟨⟨pa, pc, N, rfl, hpc2, hpc1, hsn, hN⟩, hx1⟩
          obtain ⟨hpn, hfl, hml⟩ := HE2.out N hN
          have hnl : N.length ≤ 1000000 := by have := HZL.out; omega
          have HP2 := nput_any _ pa N.length pc N x1 hsn (Nat.le_refl _) hnl (by rw [hfl]; have := HZL.out; omega) hpc1 hpc2
          rw [hpn] at HP2
          have HP2 := Lib.hid HP2
          have HBX := Lib.hid (HB7.out.trans (hx1.mono HB7.out.size))
          generalize N.length = q at HP2 hpc1 hnl ⊢
          clear hpn hfl hml hsn hN hx1 HE2 HG2
          go_wp2_with fail
          refine HP2.out.mono ?_
          rintro r x2 ⟨⟨u, rfl, ho⟩, hx2⟩
          obtain ⟨ca, cc, rfl, -, -, hm⟩ := Rw.own ho HS1.out.2.1
          have HBX2 := Lib.hid (HBX.out.trans (hx2.mono HBX.out.size))
          have hb2 := HS1.out.below HBX2.out
          have hzl := HZL.out
          simp only at hm
          rw [hzl] at hm ⊢
          have hcv1 : (convert 25 9 (.slice ca len1 cc)).run Try.prog x2 = .ok (.string (strOfNums ZB)) x2 := hm.conv cc
          have hcv2 : (convert 25 9 (.slice a1 len1 cap1)).run Try.prog x2 = .ok (.string (strOfNums ZB)) x2 := hb2.conv cap1
          generalize strOfNums ZB = S at hcv1 hcv2
          clear ho hx2 hm hb2 hzl HP2
          go_wp2
          go_ret
          exact ⟨rfl, HBX2.out⟩
        · have HE2 := Lib.hid (getN_err hg0)
          generalize getN ZB = Z2 at HG2 hg0 HE2
          obtain ⟨ge, D2⟩ := Z2
          simp only at hg0 HE2
          have hgb : (ge != 0) = true := by simpa using hg0
          go_wp2_with fail
          refine HG2.out.mono ?_
          rintro r x1 ⟨⟨pa, pc, N, rfl, -, -, -, hN⟩, hx1⟩
          obtain rfl : N = [] := by rw [HE2.out] at hN; simpa using hN
          have HBX := Lib.hid (HB7.out.trans (hx1.mono HB7.out.size))
          clear hx1
          go_wp2
          go_ret
          exact ⟨rfl, HBX.out⟩
      · have hteb : (te == 0) = false := by simpa using hte
        have HG := Lib.hid HG
        clear ho hb3 hm3 HP HGP
        go_wp2_with fail
        refine HG.out.mono ?_
        rintro r v4 ⟨⟨la, lc, M, rfl, -, -, -, -⟩, hb4⟩
        have HB4 := Lib.hid (HB3.out.trans (hb4.mono HB3.out.size))
        clear hb4 HG
        obtain ⟨ml, hml⟩ : ∃ ml, M.length = ml := ⟨_, rfl⟩
        obtain ⟨fe, hfe⟩ : ∃ fe, (getN zs).1 = fe := ⟨_, rfl⟩
        rw [hml, hfe]
        clear hml hfe HMO HLL
        have HG2 := Lib.hid (nget_any w.heap.size a1 len1 cap1 ZB v4 (HS1.out.below HB4.out) HB4.out.size hcap1 hcm1)
        by_cases hg0 : (getN ZB).1 = 0
        · have HE2 := Lib.hid (fun M h => get_end (M := M) HS1.out.2.1 hg0 h)
          have HZL := Lib.hid HS1.out.1
          generalize getN ZB = Z2 at HG2 hg0 HE2
          obtain ⟨ge, D2⟩ := Z2
          simp only at hg0 HE2
          subst hg0
          go_wp2_with fail
          refine HG2.out.mono ?_
          rintro r x1 ⟨⟨pa, pc, N, rfl, hpc2, hpc1, hsn, hN⟩, hx1⟩
          obtain ⟨hpn, hfl, hml⟩ := HE2.out N hN
          have hnl : N.length ≤ 1000000 := by have := HZL.out; omega
          have HP2 := nput_any _ pa N.length pc N x1 hsn (Nat.le_refl _) hnl (by rw [hfl]; have := HZL.out; omega) hpc1 hpc2
          rw [hpn] at HP2
          have HP2 := Lib.hid HP2
          have HBX := Lib.hid (HB4.out.trans (hx1.mono HB4.out.size))
          generalize N.length = q at HP2 hpc1 hnl ⊢
          clear hpn hfl hml hsn hN hx1 HE2 HG2
          go_wp2_with fail
          refine HP2.out.mono ?_
          rintro r x2 ⟨⟨u, rfl, ho⟩, hx2⟩
          obtain ⟨ca, cc, rfl, -, -, hm⟩ := Rw.own ho HS1.out.2.1
          have HBX2 := Lib.hid (HBX.out.trans (hx2.mono HBX.out.size))
          have hb2 := HS1.out.below HBX2.out
          have hzl := HZL.out
          simp only at hm
          rw [hzl] at hm ⊢
          have hcv1 : (convert 25 9 (.slice ca len1 cc)).run Try.prog x2 = .ok (.string (strOfNums ZB)) x2 := hm.conv cc
          have hcv2 : (convert 25 9 (.slice a1 len1 cap1)).run Try.prog x2 = .ok (.string (strOfNums ZB)) x2 := hb2.conv cap1
          generalize strOfNums ZB = S at hcv1 hcv2
          clear ho hx2 hm hb2 hzl HP2
          go_wp2
          go_ret
          exact ⟨rfl, HBX2.out⟩
        · have HE2 := Lib.hid (getN_err hg0)
          generalize getN ZB = Z2 at HG2 hg0 HE2
          obtain ⟨ge, D2⟩ := Z2
          simp only at hg0 HE2
          have hgb : (ge != 0) = true := by simpa using hg0
          go_wp2_with fail
          refine HG2.out.mono ?_
          rintro r x1 ⟨⟨pa, pc, N, rfl, -, -, -, hN⟩, hx1⟩
          obtain rfl : N = [] := by rw [HE2.out] at hN; simpa using hN
          have HBX := Lib.hid (HB4.out.trans (hx1.mono HB4.out.size))
          clear hx1
          go_wp2
          go_ret
          exact ⟨rfl, HBX.out⟩

set_option maxRecDepth 100000 in
theorem lifted (os : Os) (started : os.Started) (H : Type) (enc : TypeId × Value → H) :
    ReturnsInHanded {} Try.checked os 6 .any (Rows.notesBackSpec.pre6 enc Try.prog Try.f6 Rows.notesBackRow.domain false) (Rows.notesBackSpec.post enc Try.prog Try.f6 false true false false) := by
  refine returnsInHanded_of_change (C := Try.checked) own started (by kernel_rfl) Try.func6
    (ChangeSpec.witness6 (enc := enc) (C := Try.checked) false ⟨#[], #[.slice none 0 0, .slice none 0 0], []⟩ 8 (by kernel_rfl) (by kernel_rfl) (by kernel_rfl) (by kernel_rfl)) ?_
  intro W base args ds gs before hval0 hW hcnd _
  have hval : ∀ (j : Nat) t v, Try.f6.params[j]? = some t → args[j]? = some v → Value.okWide Try.prog W .any base t v := hval0
  have hW' := hW
  obtain ⟨p, q, hA0, hV, rfl, hfz, hnd⟩ := hW
  have hA : DataW.TrodAll enc Try.prog W 0 (fun _ => true) true Try.f6.params.toList args.toList ds p := hA0
  rw [Try.params6] at hA hval
  obtain ⟨v0, vs0, d0, ds0, p0, q0, hargs, rfl, rfl, h0, r0⟩ := trodAll_cons hA
  obtain ⟨v1, vs1, d1, ds1, p1, q1, rfl, rfl, rfl, h1, r1⟩ := trodAll_cons r0
  obtain ⟨rfl, rfl, rfl⟩ := trodAll_nil r1
  obtain rfl : args = #[v0, v1] := by cases args; simp_all
  obtain ⟨rfl, rfl⟩ := trodVars_none hV
  obtain ⟨a0, len0, cap0, rfl⟩ := okWide_slice Try.underlying22 (hval 0 22 v0 rfl rfl)
  have k0 := h0
  have lt0 : ∀ x ∈ p0, x.block < W.heap.size := by obtain ⟨m, hm⟩ := k0; exact DataW.trod_lt m _ _ _ hm
  obtain ⟨z0, w0⟩ : ∃ zs, Nt.Is W a0 len0 cap0 zs := by
    obtain ⟨fuel, hf⟩ := h0
    exact Nt.opens hf
  obtain ⟨a1, len1, cap1, rfl⟩ := okWide_slice Try.underlying25 (hval 1 25 v1 rfl rfl)
  have k1 := h1
  have lt1 : ∀ x ∈ p1, x.block < W.heap.size := by obtain ⟨m, hm⟩ := k1; exact DataW.trod_lt m _ _ _ hm
  obtain ⟨z1, w1⟩ : ∃ zs, IsRow .u8 W a1 len1 cap1 zs := by
    obtain ⟨fuel, hf⟩ := h1
    rcases open_ints Try.underlying25 Try.underlying5 (by kernel_rfl) hf with ⟨hcs, _⟩ | ⟨x, l, c, zs, hcs, _, hl, hm, hz, _, hcell, hwz⟩
    · simp [Value.cells] at hcs
      obtain ⟨rfl, rfl, rfl⟩ := hcs
      exact ⟨[], .inl ⟨rfl, rfl, rfl, rfl⟩⟩
    · simp [Value.cells] at hcs
      obtain ⟨rfl, rfl, rfl⟩ := hcs
      exact ⟨zs, .inr ⟨_, rfl, hl, hm, by simpa using hz, hcell, hwz⟩⟩
  clear hA0 hval0
  refine (walk a0 len0 cap0 z0 a1 len1 cap1 z1 W w0 w1).mono fun e W' ⟨he, bel⟩ => ?_
  subst he
  exact ⟨_, rfl, _, _, _, [], _, [], hW', trodAll_mk1 (shut_bool Try.underlying4 _), (trodAll_cons_mk (Below.trod laidOut (by kernel_rfl) (of_decide_eq_true (by kernel_rfl)) k0 bel lt0) (trodAll_cons_mk (Below.trod laidOut (by kernel_rfl) (of_decide_eq_true (by kernel_rfl)) k1 bel lt1) trodAll_mk0)), rfl, bel.frame _, fun h => by cases h⟩

theorem over : Rows.notesBackRow.holds Try.pinned (OpenSpec.ofChange Rows.notesBackSpec) :=
  OpenClaim.holds_of_wide 6 Try.f6 rfl rfl rfl rfl rfl rfl rfl ⟨rfl, rfl, rfl, rfl, rfl⟩ rfl rfl rfl rfl rfl (by kernel_rfl) Try.func6 (by kernel_rfl)
    (of_decide_eq_true (by kernel_rfl)) (by unfold Func.isWrapper; first | (rw [if_pos (by decide +kernel)]; kernel_rfl) | (rw [if_neg (by decide +kernel)]; exact ⟨rfl, rfl⟩))
    (fun os started H enc _ => lifted os started H enc)

theorem proved : Rows.NotesBackSaid := over
#print axioms proved
end Go.Proofs.Ytkgakdlalmmdiaa.notesBack
