/-
  What is proved here: DiskNames: a file that is renamed is what it was, the one that had the name is gone; renamed to itself it stays; what is removed is gone.
  Conditions: none of our own; the law's row says what its input is.
-/
import Derived.Test.YthogdieplfpopaaRows
import Derived.Test.YthogdieplfpopaaDskAwk
import Derived.Test.YthogdieplfpopaaApp
import Derived.WalkKit
import Derived.ProofKit
import Derived.OpenShut
import Derived.ShutString
import Derived.ChangeOld
import Derived.Below
namespace Go.Proofs.Ythogdieplfpopaa.diskNames
open Go.ChangeShapes Go.WideShapes Go.ChangeAt Go.RowKit
open Go.ChangeMaps (open_string shut_string)
set_option linter.unusedVariables false

theorem own : ownKnob Try.prog.godebug = none := by kernel_rfl
theorem laidOut : laidOutB Try.prog = true := by kernel_rfl

def nB : ByteArray := ⟨#[98]⟩
def nC : ByteArray := ⟨#[99]⟩
theorem nB_sz : nB.size ≤ maxLen := by decide +kernel
theorem nC_sz : nC.size ≤ maxLen := by decide +kernel
theorem nA_ne : nA ≠ .empty := by decide +kernel
theorem nB_ne : nB ≠ .empty := by decide +kernel
theorem nAB : nA ≠ nB := by decide +kernel
theorem rd_1 (x y : List Int) (w : List Do) : readD ⟨1000, [x, y], [[], []], [⟨nB, 1⟩, ⟨nA, 0⟩], [], w, false, 0⟩ nA = (x, 0) := by kernel_rfl
theorem rd_2 (x y : List Int) (w : List Do) : readD ⟨1000, [x, y], [[], []], [⟨nB, 0⟩], [], w, false, 0⟩ nB = (x, 0) := by kernel_rfl
theorem rd_3 (x y : List Int) (w : List Do) : readD ⟨1000, [x, y], [[], []], [⟨nB, 0⟩], [], w, false, 0⟩ nA = ([], 20) := by kernel_rfl
theorem rn_4 (x y : List Int) (w : List Do) : doD ⟨1000, [x, y], [[], []], [], [], w, false, 0⟩ 4 nB nC 0 [] = (⟨1000, [x, y], [[], []], [], [], w, false, 0⟩, 20) := by kernel_rfl
theorem rm_5 (x y : List Int) (w : List Do) : doD ⟨1000, [x, y], [[], []], [], [], w, false, 0⟩ 5 nB .empty 0 [] = (⟨1000, [x, y], [[], []], [], [], w, false, 0⟩, 20) := by kernel_rfl
theorem us_1 (x y : List Int) (w : List Do) : usedD (twoD nA nB x y w) = x.length + y.length := by
  show ((x.length : Int) + ((y.length : Int) + 0)) = _
  omega
theorem us_2 (x y : List Int) (w : List Do) : usedD ⟨1000, [x, y], [[], []], [⟨nB, 1⟩, ⟨nA, 0⟩], [], w, false, 0⟩ = x.length + y.length := by
  show ((y.length : Int) + ((x.length : Int) + 0)) = _
  omega
theorem us_3 (x y : List Int) (w : List Do) : usedD ⟨1000, [x, y], [[], []], [⟨nB, 0⟩], [], w, false, 0⟩ = x.length := by
  show ((x.length : Int) + 0) = _
  omega
set_option maxRecDepth 100000 in
set_option maxHeartbeats 1600000 in
theorem walk (a0 : Option Addr) (len0 cap0 : Nat) (z0 : List Int) (a1 : Option Addr) (len1 cap1 : Nat) (z1 : List Int) (a2 : Bool) (w : World) (w0 : IsRow .u8 w a0 len0 cap0 z0) (w1 : IsRow .u8 w a1 len1 cap1 z1) :
    Calls Try.prog 7 #[.slice a0 len0 cap0, .slice a1 len1 cap1, .bool a2] w fun e w' => e = .returned (.bool true) ∧ Below w.heap.size w w' := by
  have HA0 := Lib.hid (Oth.row w0)
  have HA1 := Lib.hid (Oth.row w1)
  have l0 : (z0.take len0).length = len0 := w0.bys.1.1
  have l1 : (z1.take len1).length = len1 := w1.bys.1.1
  generalize z0.take len0 = X at HA0 l0
  generalize z1.take len1 = Y at HA1 l1
  have HX := Lib.hid l0
  have HY := Lib.hid l1
  have hc0 := w0.bys.2.1
  have hc1 := w1.bys.2.1
  have hm0 := w0.bys.2.2
  have hm1 := w1.bys.2.2
  clear w0 w1 l0 l1
  have hq := fun g w => cmp_ptr g w
  go_enter Try.func7, Try.ntmps7
  go_wp2_with fail
  refine (awake_any w).mono ?_
  rintro r v1 ⟨rfl, hb⟩
  have K1 : Hid (KP (fun k => w.heap.size ≤ k) w v1) := Lib.hid (KP.of_below hb (fun k hk => hk))
  have HF : Hid (∀ k, v1.heap.size ≤ k → w.heap.size ≤ k) := Lib.hid (fun k hk => Nat.le_trans hb.size hk)
  clear hb
  by_cases b0 : 300 < len0
  · have b0i : (300 : Int) < len0 := by omega
    have HE := Lib.hid (K1.out.below (Nat.le_refl _) (fun k hk => hk))
    go_wp2
    go_ret
    exact ⟨rfl, HE.out⟩
  have b0i : ¬ (300 : Int) < len0 := by omega
  by_cases b1 : 300 < len1
  · have b1i : (300 : Int) < len1 := by omega
    have HE := Lib.hid (K1.out.below (Nat.le_refl _) (fun k hk => hk))
    go_wp2
    go_ret
    exact ⟨rfl, HE.out⟩
  have b1i : ¬ (300 : Int) < len1 := by omega
  have HL0 : Hid (X.length ≤ 300) := Lib.hid (by have := HX.out; omega)
  have HL1 : Hid (Y.length ≤ 300) := Lib.hid (by have := HY.out; omega)
  go_wp2_with fail
  refine (Dw.new v1 1000 (by decide) (by decide) HF.out).mono ?_
  rintro r v2 ⟨rfl, hd, hk⟩
  obtain ⟨g, hg⟩ : ∃ g, v1.heap.size = g := ⟨_, rfl⟩
  rw [hg] at hd ⊢
  have D2 := Lib.hid hd
  have K2 := Lib.hid (K1.out.trans hk)
  clear hd hk HF hg K1
  unfold ptrV
  go_wp2_with fail
  refine (D2.out.create nA_sz (by decide) (by decide) (two_a nA_ne .empty)).mono ?_
  rintro r v3 ⟨rfl, hd, hk⟩
  have D3 := Lib.hid hd
  have K3 := Lib.hid (K2.out.trans hk)
  clear hd hk D2 K2
  go_wp2_with fail
  refine (D3.out.create nB_sz (by decide) (by decide) (two_b nB_ne nAB .empty _)).mono ?_
  rintro r v4 ⟨rfl, hd, hk⟩
  generalize ([⟨2, 0, 0, [], .empty, nA⟩] : List Do) ++ [⟨2, 1, 0, [], .empty, nB⟩] = W4 at hd
  have D4 := Lib.hid hd
  have K4 := Lib.hid (K3.out.trans hk)
  have A4 := Lib.hid (HA0.out.keep K4.out (fun _ h => h))
  clear hd hk D3 K3
  go_wp2_with fail
  refine (D4.out.write nA_sz A4.out (by rw [us_1]; decide) (by decide) (by decide) (by decide) (by have := HL0.out; omega) (two_wa nAB HL0.out .empty W4)).mono ?_
  rintro r v5 ⟨rfl, hd, hk⟩
  generalize W4 ++ [⟨1, 0, 0, X, .empty, .empty⟩] = W5 at hd
  have D5 := Lib.hid hd
  have K5 := Lib.hid (K4.out.trans hk)
  have A5 := Lib.hid (HA1.out.keep K5.out (fun _ h => h))
  clear hd hk D4 K4 A4
  go_wp2_with fail
  refine (D5.out.write nB_sz A5.out (by rw [us_1]; have := HL0.out; simp only [List.length_nil]; omega) (by decide) (by decide) (by decide) (by have := HL0.out; have := HL1.out; omega) (two_wb nAB HL0.out HL1.out .empty W5)).mono ?_
  rintro r v6 ⟨rfl, hd, hk⟩
  generalize W5 ++ [⟨1, 1, 0, Y, .empty, .empty⟩] = W6 at hd
  have D6 := Lib.hid hd
  have K6 := Lib.hid (K5.out.trans hk)
  clear hd hk D5 K5 A5
  have HE6 : Hid (0 + X.length + Y.length ≤ 1099511627776) := Lib.hid (by have := HL0.out; have := HL1.out; omega)
  cases a2 with
  | true =>
    go_wp2_with fail
    refine (D6.out.rename nA_sz nA_sz (by decide) HE6.out (two_same nA_ne nAB X Y W6)).mono ?_
    rintro r v7 ⟨rfl, hd, hk⟩
    generalize W6 ++ [⟨3, 0, 0, [], nA, nA⟩] = W7 at hd
    have D7 := Lib.hid hd
    have K7 := Lib.hid (K6.out.trans hk)
    clear hd hk D6 K6
    go_wp2_with fail
    refine (D7.out.read nA_sz HE6.out (rd_1 X Y W7)).mono ?_
    rintro r v8 ⟨xa, xc, rfl, hd, hk, hx⟩
    have D8 := Lib.hid hd
    have K8 := Lib.hid (K7.out.trans hk)
    have cx := hx.conv
    have ca := (HA0.out.keep K8.out (fun _ h => h)).conv
    rw [HX.out] at cx ⊢
    generalize strOfNums X = SX at cx ca
    clear hd hk hx D7 K7
    go_wp2_with fail
    refine (D8.out.names (n := 2) (by decide) rfl).mono ?_
    rintro r v9 ⟨⟨na, nk, rfl⟩, hd, hk⟩
    have D9 := Lib.hid hd
    have K9 := Lib.hid (K8.out.trans (hk.weak But.weak))
    clear hd hk D8 K8 cx ca
    go_wp2_with fail
    refine (D9.out.used (n := (len0 : Int) + len1) (by rw [us_2]; have := HL0.out; have := HL1.out; omega) (by rw [us_2, HX.out, HY.out])).mono ?_
    rintro r v10 ⟨rfl, hd, hk⟩
    have K10 := Lib.hid ((K9.out.trans (hk.weak But.weak)).below (Nat.le_refl _) (fun k hk => hk))
    clear hd hk D9 K9
    go_wp2
    go_ret
    exact ⟨rfl, K10.out⟩
  | false =>
    go_wp2_with fail
    refine (D6.out.rename nA_sz nB_sz (by decide) HE6.out (two_over nB_ne nAB X Y W6)).mono ?_
    rintro r v7 ⟨rfl, hd, hk⟩
    generalize W6 ++ [⟨3, 0, 0, [], nA, nB⟩] = W7 at hd
    have D7 := Lib.hid hd
    have K7 := Lib.hid (K6.out.trans hk)
    clear hd hk D6 K6
    go_wp2_with fail
    refine (D7.out.read nB_sz HE6.out (rd_2 X Y W7)).mono ?_
    rintro r v8 ⟨xa, xc, rfl, hd, hk, hx⟩
    have D8 := Lib.hid hd
    have K8 := Lib.hid (K7.out.trans hk)
    have HXO := Lib.hid hx
    rw [HX.out]
    clear hd hk hx D7 K7
    go_wp2_with fail
    refine (D8.out.read nA_sz HE6.out (rd_3 X Y W7)).mono ?_
    rintro r v9 ⟨ya, yc, rfl, hd, hk, hx⟩
    have D9 := Lib.hid (hd.weak But.weak)
    have K9 := Lib.hid (K8.out.trans (hk.weak But.weak))
    have HX9 := Lib.hid (HXO.out.keep hk (fun _ h => h))
    clear hd hk hx D8 K8 HXO
    go_wp2_with fail
    refine (D9.out.used (n := (len0 : Int)) (by rw [us_3]; have := HL0.out; omega) (by rw [us_3, HX.out])).mono ?_
    rintro r v10 ⟨rfl, hd, hk⟩
    have D10 := Lib.hid hd
    have K10 := Lib.hid (K9.out.trans (hk.weak But.weak))
    have HX10 := Lib.hid (HX9.out.keep hk (fun _ h => h))
    clear hd hk D9 K9 HX9
    go_wp2_with fail
    refine (D10.out.remove nB_sz (by decide) HE6.out (two_gone X Y W7)).mono ?_
    rintro r v11 ⟨rfl, hd, hk⟩
    generalize W7 ++ [⟨4, 0, 0, [], nB, .empty⟩] = W8 at hd
    have D11 := Lib.hid hd
    have K11 := Lib.hid (K10.out.trans (hk.weak But.weak))
    have cx := (HX10.out.keep hk (fun _ h => h)).conv
    have ca := (HA0.out.keep K11.out (fun _ h => h)).conv
    rw [HX.out] at cx
    generalize strOfNums X = SX at cx ca
    clear hd hk D10 K10 HX10
    go_wp2_with fail
    refine (D11.out.names (n := 0) (by decide) rfl).mono ?_
    rintro r v12 ⟨⟨na, nk, rfl⟩, hd, hk⟩
    have D12 := Lib.hid hd
    have K12 := Lib.hid (K11.out.trans (hk.weak But.weak))
    clear hd hk D11 K11 cx ca
    go_wp2_with fail
    refine (D12.out.rename nB_sz nC_sz (by decide) HE6.out (rn_4 X Y W8)).mono ?_
    rintro r v13 ⟨rfl, hd, hk⟩
    have D13 := Lib.hid hd
    have K13 := Lib.hid (K12.out.trans (hk.weak But.weak))
    clear hd hk D12 K12
    go_wp2_with fail
    refine (D13.out.remove nB_sz (by decide) HE6.out (rm_5 X Y W8)).mono ?_
    rintro r v14 ⟨rfl, hd, hk⟩
    have K14 := Lib.hid ((K13.out.trans (hk.weak But.weak)).below (Nat.le_refl _) (fun k hk => hk))
    clear hd hk D13 K13
    go_wp2
    go_ret
    exact ⟨rfl, K14.out⟩

set_option maxRecDepth 100000 in
theorem lifted (os : Os) (started : os.Started) (H : Type) (enc : TypeId × Value → H) :
    ReturnsInHanded {} Try.checked os 7 .any (Rows.diskNamesSpec.pre6 enc Try.prog Try.f7 Rows.diskNamesRow.domain false) (Rows.diskNamesSpec.post enc Try.prog Try.f7 false true false false) := by
  refine returnsInHanded_of_change (C := Try.checked) own started (by kernel_rfl) Try.func7
    (ChangeSpec.witness6 (enc := enc) (C := Try.checked) false ⟨#[], #[.slice none 0 0, .slice none 0 0, .bool false], []⟩ 8 (by kernel_rfl) (by kernel_rfl) (by kernel_rfl) (by kernel_rfl)) ?_
  intro W base args ds gs before hval0 hW hcnd _
  have hval : ∀ (j : Nat) t v, Try.f7.params[j]? = some t → args[j]? = some v → Value.okWide Try.prog W .any base t v := hval0
  have hW' := hW
  obtain ⟨p, q, hA0, hV, rfl, hfz, hnd⟩ := hW
  have hA : DataW.TrodAll enc Try.prog W 0 (fun _ => true) true Try.f7.params.toList args.toList ds p := hA0
  rw [Try.params7] at hA hval
  obtain ⟨v0, vs0, d0, ds0, p0, q0, hargs, rfl, rfl, h0, r0⟩ := trodAll_cons hA
  obtain ⟨v1, vs1, d1, ds1, p1, q1, rfl, rfl, rfl, h1, r1⟩ := trodAll_cons r0
  obtain ⟨v2, vs2, d2, ds2, p2, q2, rfl, rfl, rfl, h2, r2⟩ := trodAll_cons r1
  obtain ⟨rfl, rfl, rfl⟩ := trodAll_nil r2
  obtain rfl : args = #[v0, v1, v2] := by cases args; simp_all
  obtain ⟨rfl, rfl⟩ := trodVars_none hV
  obtain ⟨a0, len0, cap0, rfl⟩ := okWide_slice Try.underlying32 (hval 0 32 v0 rfl rfl)
  have k0 := h0
  have lt0 : ∀ x ∈ p0, x.block < W.heap.size := by obtain ⟨m, hm⟩ := k0; exact DataW.trod_lt m _ _ _ hm
  obtain ⟨z0, w0⟩ : ∃ zs, IsRow .u8 W a0 len0 cap0 zs := by
    obtain ⟨fuel, hf⟩ := h0
    rcases open_ints Try.underlying32 Try.underlying5 (by kernel_rfl) hf with ⟨hcs, _⟩ | ⟨x, l, c, zs, hcs, _, hl, hm, hz, _, hcell, hwz⟩
    · simp [Value.cells] at hcs
      obtain ⟨rfl, rfl, rfl⟩ := hcs
      exact ⟨[], .inl ⟨rfl, rfl, rfl, rfl⟩⟩
    · simp [Value.cells] at hcs
      obtain ⟨rfl, rfl, rfl⟩ := hcs
      exact ⟨zs, .inr ⟨_, rfl, hl, hm, by simpa using hz, hcell, hwz⟩⟩
  obtain ⟨a1, len1, cap1, rfl⟩ := okWide_slice Try.underlying32 (hval 1 32 v1 rfl rfl)
  have k1 := h1
  have lt1 : ∀ x ∈ p1, x.block < W.heap.size := by obtain ⟨m, hm⟩ := k1; exact DataW.trod_lt m _ _ _ hm
  obtain ⟨z1, w1⟩ : ∃ zs, IsRow .u8 W a1 len1 cap1 zs := by
    obtain ⟨fuel, hf⟩ := h1
    rcases open_ints Try.underlying32 Try.underlying5 (by kernel_rfl) hf with ⟨hcs, _⟩ | ⟨x, l, c, zs, hcs, _, hl, hm, hz, _, hcell, hwz⟩
    · simp [Value.cells] at hcs
      obtain ⟨rfl, rfl, rfl⟩ := hcs
      exact ⟨[], .inl ⟨rfl, rfl, rfl, rfl⟩⟩
    · simp [Value.cells] at hcs
      obtain ⟨rfl, rfl, rfl⟩ := hcs
      exact ⟨zs, .inr ⟨_, rfl, hl, hm, by simpa using hz, hcell, hwz⟩⟩
  obtain ⟨a2, rfl, rfl, rfl⟩ := open_bool Try.underlying4 (hval 2 4 v2 rfl rfl) h2
  clear hA0 hval0
  refine (walk a0 len0 cap0 z0 a1 len1 cap1 z1 a2 W w0 w1).mono fun e W' ⟨he, bel⟩ => ?_
  subst he
  exact ⟨_, rfl, _, _, _, [], _, [], hW', trodAll_mk1 (shut_bool Try.underlying4 _), (trodAll_cons_mk (Below.trod laidOut (by kernel_rfl) (of_decide_eq_true (by kernel_rfl)) k0 bel lt0) (trodAll_cons_mk (Below.trod laidOut (by kernel_rfl) (of_decide_eq_true (by kernel_rfl)) k1 bel lt1) (trodAll_cons_mk (shut_bool Try.underlying4 _) trodAll_mk0))), rfl, bel.frame _, fun h => by cases h⟩

theorem over : Rows.diskNamesRow.holds Try.pinned (OpenSpec.ofChange Rows.diskNamesSpec) :=
  OpenClaim.holds_of_wide 7 Try.f7 rfl rfl rfl rfl rfl rfl rfl ⟨rfl, rfl, rfl, rfl, rfl⟩ rfl rfl rfl rfl rfl (by kernel_rfl) Try.func7 (by kernel_rfl)
    (of_decide_eq_true (by kernel_rfl)) (by unfold Func.isWrapper; first | (rw [if_pos (by decide +kernel)]; kernel_rfl) | (rw [if_neg (by decide +kernel)]; exact ⟨rfl, rfl⟩))
    (fun os started H enc _ => lifted os started H enc)

theorem proved : Rows.DiskNamesSaid := over
#print axioms proved
end Go.Proofs.Ythogdieplfpopaa.diskNames
