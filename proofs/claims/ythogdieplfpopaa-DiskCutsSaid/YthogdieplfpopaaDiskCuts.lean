/-
  What is proved here: DiskCuts: the power goes off at just the operation that was said, which isn't done; without power nothing is, and nothing is read.
  Conditions: none of our own; the law's row says what its input is.
-/
import Derived.Test.YthogdieplfpopaaRows
import Derived.Test.YthogdieplfpopaaDskAwk
import Derived.Test.YthogdieplfpopaaApp
import Derived.Test.YthogdieplfpopaaMask
import Derived.WalkKit
import Derived.ProofKit
import Derived.OpenShut
import Derived.ShutString
import Derived.ChangeOld
import Derived.Below
namespace Go.Proofs.Ythogdieplfpopaa.diskCuts
open Go.ChangeShapes Go.WideShapes Go.ChangeAt Go.RowKit
open Go.ChangeMaps (open_string shut_string)
set_option linter.unusedVariables false

theorem own : ownKnob Try.prog.godebug = none := by kernel_rfl
theorem laidOut : laidOutB Try.prog = true := by kernel_rfl

theorem nA_ne : nA ≠ .empty := by decide +kernel
/-- Behind m tries to write. -/
def cutsM (k m : Nat) : Dk := cutsD nA k (min m (k - 1)) (decide (k ≤ m))
theorem cutsM_off (k m : Nat) : (cutsM k m).off = decide (k ≤ m) := rfl
theorem cutsM_used (k m : Nat) : usedD (cutsM k m) = (min m (k - 1) : Nat) := cuts_used _ _ _ _
theorem cutsM_wait (k m : Nat) : (cutsM k m).wait.length = min m (k - 1) + 1 := cutsW_len _ _
theorem cuts_go {k q : Nat} (h1 : 1 ≤ q) (hq : q ≤ 99) (hk : 1 ≤ k) : doD (cutsM k (q - 1)) 2 nA .empty ((q : Int) - 1) [(q : Int)] = (cutsM k q, if q < k then 0 else 23) := by
  unfold cutsM
  have e1 : (q : Int) - 1 = ((q - 1 : Nat) : Int) := by omega
  have e2 : (q : Int) = ((q - 1 : Nat) : Int) + 1 := by omega
  by_cases h : q < k
  · rw [if_pos h, decide_eq_false (by omega), decide_eq_false (by omega), Nat.min_eq_left (by omega), Nat.min_eq_left (by omega), e1]
    have := cuts_step (a := nA) (k := k) (i := q - 1) (by omega) (by omega)
    rw [← e2, show q - 1 + 1 = q by omega] at this
    exact this
  · rw [if_neg h]
    by_cases h2 : q = k
    · rw [decide_eq_false (show ¬ k ≤ q - 1 by omega), decide_eq_true (show k ≤ q by omega), Nat.min_eq_left (by omega), Nat.min_eq_right (by omega), e1]
      have := cuts_off (a := nA) (k := k) (i := q - 1) (by omega) (by omega)
      rw [← e2] at this
      rw [show k - 1 = q - 1 by omega]
      exact this
    · rw [decide_eq_true (show k ≤ q - 1 by omega), decide_eq_true (show k ≤ q by omega), Nat.min_eq_right (by omega), Nat.min_eq_right (by omega)]
      exact off_does rfl _ _ _ _ _
theorem cutsM_read {k m : Nat} (h : k ≤ m) : readD (cutsM k m) nA = ([], 23) := by
  unfold readD
  rw [cutsM_off, if_pos (by simpa using h)]
theorem cutsM_sync {k m : Nat} (h : k ≤ m) : doD (cutsM k m) 6 .empty .empty 0 [] = (cutsM k m, 23) := off_does (by rw [cutsM_off]; simpa using h) _ _ _ _ _
theorem cutsM_bytes (q : Nat) (hq : q ≤ 31) : ∀ n ∈ [(q : Int)], 0 ≤ n ∧ n ≤ 255 := by
  intro n hn
  rw [List.mem_singleton.1 hn]
  omega
theorem cutsM_crash (k m : Nat) : (crashD (cutsM k m) []).off = false ∧ usedD (crashD (cutsM k m) []) = 0 ∧ (crashD (cutsM k m) []).l = [] ∧ (doD (crashD (cutsM k m) []) 1 nA .empty 0 []).2 = 0 := cuts_crash nA_ne .empty
set_option maxRecDepth 100000 in
set_option maxHeartbeats 1600000 in
theorem walk (a0 : Int) (a1 : Int) (w : World) (w0 : (Lit.int .i64 a0).wf = true) (w1 : (Lit.int .i64 a1).wf = true) :
    Calls Try.prog 6 #[.int .i64 a0, .int .i64 a1] w fun e w' => e = .returned (.bool true) ∧ Below w.heap.size w w' := by
  obtain ⟨m, hm, hand⟩ := i64_mask a0 15 (by decide)
  obtain ⟨n, hn, hand2⟩ := i64_mask a1 31 (by decide)
  obtain ⟨k, hk⟩ : ∃ k, m + 1 = k := ⟨_, rfl⟩
  have hand2 : bits .and .i64 a1 31 = (n : Int) := hand2
  have hw1 : wrap64 (1 + bits .and .i64 a0 15) = (k : Int) := by
    have : bits .and .i64 a0 15 = (m : Int) := hand
    rw [this]
    unfold wrap64
    omega
  have hk0 : 1 ≤ k := by omega
  have hk1 : k ≤ 16 := by omega
  clear hand hk hm
  have hq := fun g w => cmp_ptr g w
  go_enter Try.func6, Try.ntmps6
  go_wp2_with fail
  refine (awake_any w).mono ?_
  rintro r v1 ⟨rfl, hb⟩
  have K1 : Hid (KP (fun k => w.heap.size ≤ k) w v1) := Lib.hid (KP.of_below hb (fun k hk => hk))
  have HF : Hid (∀ k, v1.heap.size ≤ k → w.heap.size ≤ k) := Lib.hid (fun k hk => Nat.le_trans hb.size hk)
  clear hb
  go_wp2_with fail
  refine (Dw.new v1 100 (by decide) (by decide) HF.out).mono ?_
  rintro r v2 ⟨rfl, hd, hk⟩
  obtain ⟨g, hg⟩ : ∃ g, v1.heap.size = g := ⟨_, rfl⟩
  rw [hg] at hd ⊢
  have D2 := Lib.hid hd
  have K2 := Lib.hid (K1.out.trans hk)
  clear hd hk HF hg K1
  unfold ptrV
  go_wp2_with fail
  refine (D2.out.create nA_sz (by decide) (by decide) (cuts_start nA_ne (k := k) (by omega) .empty).1).mono ?_
  rintro r v3 ⟨rfl, hd, hk'⟩
  have D3 := Lib.hid hd
  have K3 := Lib.hid (K2.out.trans hk')
  clear hd hk' D2 K2
  go_wp2_with fail
  refine (D3.out.cut k (by omega) ((cuts_start nA_ne hk0 .empty).2.trans (show cutsD nA k 0 false = cutsM k 0 from by unfold cutsM; rw [decide_eq_false (by omega), Nat.min_eq_left (by omega)]))).mono ?_
  rintro r v4 ⟨rfl, hd, hk'⟩
  have D4 := Lib.hid hd
  have K4 := Lib.hid (K3.out.trans hk')
  clear hd hk' D3 K3
  go_wp2
  go_loopw [9, 10] (fun i _ wr => ∃ q : Nat, 1 ≤ q ∧ q ≤ n + 1 ∧ i = .int .i64 q ∧ Hid (Dw (fun k => w.heap.size ≤ k) g wr (cutsM k (q - 1)) q (q - 1)) ∧ Hid (KP (fun k => w.heap.size ≤ k) w wr)) (fun i _ _ => n + 1 - (intOf i).toNat)
  case atStart => exact ⟨1, by omega, by omega, rfl, Lib.hid D4.out, K4⟩
  case round =>
    obtain ⟨q, hq1, hqn, rfl, DQ, KQ⟩ := hrel
    by_cases hlt : q ≤ n
    · have hlti : (q : Int) ≤ n := by omega
      have hw8 : IntKind.u8.wrap (q : Int) = q := by
        show (q : Int) % 256 = q
        omega
      have DA := Lib.hid (DQ.out.made (World.grownBy_alloc wr (.cells #[.int .u8 q] 5 (0, 0)) none))
      have BA : Hid (Oth (But (fun k => w.heap.size ≤ k) wr (wr.alloc (.cells #[.int .u8 q] 5 (0, 0)))) (wr.alloc (.cells #[.int .u8 q] 5 (0, 0))) (.slice (some ⟨wr.heap.size, 0, none⟩) 1 1) [(q : Int)]) := Lib.hid (Oth.lit wr (0, 0) [(q : Int)] (cutsM_bytes q (by omega)))
      have KA := Lib.hid (KQ.out.trans (KP.grown (World.grownBy_alloc wr (.cells #[.int .u8 q] 5 (0, 0)) none) (fun k hk => by cases hk)))
      clear DQ KQ
      go_wp2_with fail
      refine (DA.out.write nA_sz BA.out (by rw [cutsM_used]; omega) (by omega) (by omega) (by omega) (by simp only [List.length_singleton]; omega) (cuts_go hq1 (by omega) hk0)).mono ?_
      rintro r v5 ⟨rfl, hd, hk'⟩
      have D5 := Lib.hid ((hd.weak But.weak).up (c' := q + 1) (e' := q + 1 - 1) (by omega) (by simp only [List.length_singleton]; omega))
      have K5 := Lib.hid (KA.out.trans (hk'.weak But.weak))
      have HOF := Lib.hid (cutsM_off k q)
      clear hd hk' DA KA BA
      by_cases hqk : q < k
      · have hqki : (q : Int) < k := by omega
        have hof : (cutsM k q).off = false := by rw [HOF.out]; exact decide_eq_false (by omega)
        rw [if_pos hqk]
        go_wp2_with fail
        refine (D5.out.off).mono ?_
        rintro r v6 ⟨rfl, rfl⟩
        rw [hof]
        clear hof
        go_wp2
        go_roundw
        case rel => exact ⟨q + 1, by omega, by omega, by go_num, D5, K5⟩
        case measure => simp [intOf]; omega
      · have hqki : ¬ (q : Int) < k := by omega
        have hof : (cutsM k q).off = true := by rw [HOF.out]; exact decide_eq_true (by omega)
        rw [if_neg hqk]
        go_wp2_with fail
        refine (D5.out.off).mono ?_
        rintro r v6 ⟨rfl, rfl⟩
        rw [hof]
        clear hof
        go_wp2
        go_roundw
        case rel => exact ⟨q + 1, by omega, by omega, by go_num, D5, K5⟩
        case measure => simp [intOf]; omega
    · have hlti : ¬ (q : Int) ≤ n := by omega
      obtain rfl : q = n + 1 := by omega
      have D8 : Hid (Dw (fun k => w.heap.size ≤ k) g wr (cutsM k n) (n + 1) n) := DQ
      clear DQ
      by_cases hnk : k ≤ n
      · have hnki : (k : Int) ≤ n := by omega
        go_wp2_with fail
        refine (D8.out.read nA_sz (by omega) (cutsM_read hnk)).mono ?_
        rintro r v7 ⟨xa, xc, rfl, hd, hk', hx⟩
        have D7 := Lib.hid (hd.weak But.weak)
        have K7 := Lib.hid (KQ.out.trans hk')
        clear hd hk' hx D8 KQ
        go_wp2_with fail
        refine (D7.out.syncNames (by rw [cutsM_wait]; omega) (by omega) (cutsM_sync hnk)).mono ?_
        rintro r v9 ⟨rfl, hd, hk'⟩
        have D9 := Lib.hid (hd.up (c' := 100) (Nat.le_trans (Nat.add_le_add_left (Nat.le_of_eq (cutsM_wait k n)) _) (by omega)) (Nat.le_refl _))
        have K9 := Lib.hid (K7.out.trans hk')
        clear hd hk' D7 K7
        go_wp2_with fail
        refine (D9.out.used (n := (k : Int) - 1) (by rw [cutsM_used]; omega) (by rw [cutsM_used]; omega)).mono ?_
        rintro r v10 ⟨rfl, hd, hk'⟩
        have D10 := Lib.hid hd
        have K10 := Lib.hid (K9.out.trans hk')
        clear hd hk' D9 K9
        go_wp2_with fail
        refine (D10.out.pending (n := (k : Int) - 1 + 1) (by rw [cutsM_wait]; omega)).mono ?_
        rintro r v10' ⟨rfl, rfl⟩
        obtain ⟨x1, x2, x3, x4⟩ := cutsM_crash k n
        have hx0 := cutsM_wait k n
        obtain ⟨Z, hZ⟩ : ∃ Z, crashD (cutsM k n) [] = Z := ⟨_, rfl⟩
        rw [hZ] at x1 x2 x3 x4
        have HX := Lib.hid x2
        have HX3 := Lib.hid x3
        obtain ⟨Z2, hZ2⟩ : ∃ Z2, doD Z 1 nA .empty 0 [] = (Z2, 0) := ⟨(doD Z 1 nA .empty 0 []).1, Prod.ext rfl x4⟩
        have HZ := Lib.hid hZ
        have HZ2 := Lib.hid hZ2
        have HX0 := Lib.hid hx0
        clear x2 x3 x4 hZ hZ2 hx0
        go_wp2_with fail
        refine (D10.out.crash [] (fun _ _ => .inl ⟨rfl, rfl⟩) (by have := HX0.out; omega) (by omega) (by decide) HZ.out).mono ?_
        rintro r v11 ⟨rfl, hd, hk'⟩
        have D11 := Lib.hid (hd.up (c' := 1000) (e' := 1000) (by have := HX0.out; omega) (by omega))
        have K11 := Lib.hid (K10.out.trans hk')
        clear hd hk' D10 K10
        go_wp2_with fail
        refine D11.out.off.mono ?_
        rintro r v11' ⟨rfl, rfl⟩
        rw [x1]
        clear x1
        go_wp2_with fail
        refine (D11.out.used (n := 0) (by rw [HX.out]; decide) HX.out).mono ?_
        rintro r v12 ⟨rfl, hd, hk'⟩
        have D12 := Lib.hid hd
        have K12 := Lib.hid (K11.out.trans hk')
        clear hd hk' D11 K11
        go_wp2_with fail
        refine (D12.out.names (n := 0) (by decide) (by rw [HX3.out]; rfl)).mono ?_
        rintro r v13 ⟨⟨na, nk, rfl⟩, hd, hk'⟩
        have D13 := Lib.hid hd
        have K13 := Lib.hid (K12.out.trans hk')
        clear hd hk' D12 K12
        go_wp2_with fail
        refine (D13.out.create nA_sz (by decide) (by decide) HZ2.out).mono ?_
        rintro r v14 ⟨rfl, hd, hk'⟩
        have K14 := Lib.hid ((K13.out.trans hk').below (Nat.le_refl _) (fun k hk => hk))
        clear hd hk' D13 K13
        go_wp2
        go_ret
        exact ⟨rfl, K14.out⟩
      · have hnki : ¬ (k : Int) ≤ n := by omega
        have D9 := Lib.hid (D8.out.up (c' := 100) (by omega) (Nat.le_refl _))
        have K9 := KQ
        clear D8 KQ
        go_wp2_with fail
        refine (D9.out.used (n := (n : Int)) (by rw [cutsM_used]; omega) (by rw [cutsM_used]; omega)).mono ?_
        rintro r v10 ⟨rfl, hd, hk'⟩
        have D10 := Lib.hid hd
        have K10 := Lib.hid (K9.out.trans hk')
        clear hd hk' D9 K9
        go_wp2_with fail
        refine (D10.out.pending (n := (n : Int) + 1) (by rw [cutsM_wait]; omega)).mono ?_
        rintro r v10' ⟨rfl, rfl⟩
        obtain ⟨x1, x2, x3, x4⟩ := cutsM_crash k n
        have hx0 := cutsM_wait k n
        obtain ⟨Z, hZ⟩ : ∃ Z, crashD (cutsM k n) [] = Z := ⟨_, rfl⟩
        rw [hZ] at x1 x2 x3 x4
        have HX := Lib.hid x2
        have HX3 := Lib.hid x3
        obtain ⟨Z2, hZ2⟩ : ∃ Z2, doD Z 1 nA .empty 0 [] = (Z2, 0) := ⟨(doD Z 1 nA .empty 0 []).1, Prod.ext rfl x4⟩
        have HZ := Lib.hid hZ
        have HZ2 := Lib.hid hZ2
        have HX0 := Lib.hid hx0
        clear x2 x3 x4 hZ hZ2 hx0
        go_wp2_with fail
        refine (D10.out.crash [] (fun _ _ => .inl ⟨rfl, rfl⟩) (by have := HX0.out; omega) (by omega) (by decide) HZ.out).mono ?_
        rintro r v11 ⟨rfl, hd, hk'⟩
        have D11 := Lib.hid (hd.up (c' := 1000) (e' := 1000) (by have := HX0.out; omega) (by omega))
        have K11 := Lib.hid (K10.out.trans hk')
        clear hd hk' D10 K10
        go_wp2_with fail
        refine D11.out.off.mono ?_
        rintro r v11' ⟨rfl, rfl⟩
        rw [x1]
        clear x1
        go_wp2_with fail
        refine (D11.out.used (n := 0) (by rw [HX.out]; decide) HX.out).mono ?_
        rintro r v12 ⟨rfl, hd, hk'⟩
        have D12 := Lib.hid hd
        have K12 := Lib.hid (K11.out.trans hk')
        clear hd hk' D11 K11
        go_wp2_with fail
        refine (D12.out.names (n := 0) (by decide) (by rw [HX3.out]; rfl)).mono ?_
        rintro r v13 ⟨⟨na, nk, rfl⟩, hd, hk'⟩
        have D13 := Lib.hid hd
        have K13 := Lib.hid (K12.out.trans hk')
        clear hd hk' D12 K12
        go_wp2_with fail
        refine (D13.out.create nA_sz (by decide) (by decide) HZ2.out).mono ?_
        rintro r v14 ⟨rfl, hd, hk'⟩
        have K14 := Lib.hid ((K13.out.trans hk').below (Nat.le_refl _) (fun k hk => hk))
        clear hd hk' D13 K13
        go_wp2
        go_ret
        exact ⟨rfl, K14.out⟩

set_option maxRecDepth 100000 in
theorem lifted (os : Os) (started : os.Started) (H : Type) (enc : TypeId × Value → H) :
    ReturnsInHanded {} Try.checked os 6 .any (Rows.diskCutsSpec.pre6 enc Try.prog Try.f6 Rows.diskCutsRow.domain false) (Rows.diskCutsSpec.post enc Try.prog Try.f6 false true false false) := by
  refine returnsInHanded_of_change (C := Try.checked) own started (by kernel_rfl) Try.func6
    (ChangeSpec.witness6 (enc := enc) (C := Try.checked) false ⟨#[], #[.int .i64 0, .int .i64 0], []⟩ 8 (by kernel_rfl) (by kernel_rfl) (by kernel_rfl) (by kernel_rfl)) ?_
  intro W base args ds gs before hval0 hW hcnd _
  have hval : ∀ (j : Nat) t v, Try.f6.params[j]? = some t → args[j]? = some v → Value.okWide Try.prog W .any base t v := hval0
  have hW' := hW
  obtain ⟨p, q, hA0, hV, rfl, hfz, hnd⟩ := hW
  have hA : DataW.TrodAll enc Try.prog W 0 (fun _ => true) true Try.f6.params.toList args.toList ds p := hA0
  rw [Try.params6] at hA hval
  obtain ⟨v0, vs0, d0, ds0, p0, q0, hargs, rfl, rfl, h0, r0⟩ := trodAll_cons hA
  obtain ⟨v1, vs1, d1, ds1, p1, q1, rfl, rfl, rfl, h1, r1⟩ := trodAll_cons r0
  obtain ⟨rfl, rfl, rfl⟩ := trodAll_nil r1
  obtain rfl : args = #[v0, v1] := by cases args; simp_all
  obtain ⟨rfl, rfl⟩ := trodVars_none hV
  obtain ⟨a0, rfl, rfl, rfl, w0⟩ := open_int Try.underlying3 (hval 0 3 v0 rfl rfl) h0
  obtain ⟨a1, rfl, rfl, rfl, w1⟩ := open_int Try.underlying3 (hval 1 3 v1 rfl rfl) h1
  clear hA0 hval0
  refine (walk a0 a1 W w0 w1).mono fun e W' ⟨he, bel⟩ => ?_
  subst he
  exact ⟨_, rfl, _, _, _, [], _, [], hW', trodAll_mk1 (shut_bool Try.underlying4 _), (trodAll_cons_mk (shut_int Try.underlying3 w0) (trodAll_cons_mk (shut_int Try.underlying3 w1) trodAll_mk0)), rfl, bel.frame _, fun h => by cases h⟩

theorem over : Rows.diskCutsRow.holds Try.pinned (OpenSpec.ofChange Rows.diskCutsSpec) :=
  OpenClaim.holds_of_wide 6 Try.f6 rfl rfl rfl rfl rfl rfl rfl ⟨rfl, rfl, rfl, rfl, rfl⟩ rfl rfl rfl rfl rfl (by kernel_rfl) Try.func6 (by kernel_rfl)
    (of_decide_eq_true (by kernel_rfl)) (by unfold Func.isWrapper; first | (rw [if_pos (by decide +kernel)]; kernel_rfl) | (rw [if_neg (by decide +kernel)]; exact ⟨rfl, rfl⟩))
    (fun os started H enc _ => lifted os started H enc)

theorem proved : Rows.DiskCutsSaid := over
#print axioms proved
end Go.Proofs.Ythogdieplfpopaa.diskCuts
