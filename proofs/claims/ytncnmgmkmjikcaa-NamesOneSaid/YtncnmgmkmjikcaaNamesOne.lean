/-
  What is proved here: the law NamesOne: for every input it returns true and leaves its argument as it was.
  Conditions: none of our own; the law's row says what its input is.
-/
import Derived.Test.YtncnmgmkmjikcaaRows
import Derived.Test.YtncnmgmkmjikcaaNamOne
import Derived.WalkKit
import Derived.ProofKit
import Derived.OpenShut
import Derived.ShutString
import Derived.ChangeOld
import Derived.Below
namespace Go.Proofs.Ytncnmgmkmjikcaa.namesOne
open Go.ChangeShapes Go.WideShapes Go.ChangeAt Go.RowKit
open Go.ChangeMaps (open_string shut_string)
set_option linter.unusedVariables false

theorem own : ownKnob Try.prog.godebug = none := by kernel_rfl
theorem laidOut : laidOutB Try.prog = true := by kernel_rfl

set_option maxRecDepth 100000 in
set_option maxHeartbeats 800000 in
/-- The law's road where Build hands back an error. -/
theorem core_no (s : ByteArray) (er : Int) (w : World) (her : er = 1 ∨ er = 13) (hsz : (s.size : Int) ≤ 2000)
    (HS : Hid (GivesOne 15 s [] [] er)) (HR : Hid (GivesOne 16 s [] [] er)) :
    Calls Try.prog 7 #[.string s] w fun e w' => e = .returned (.bool true) ∧ Below w.heap.size w w' := by
  have her0 : (er == 0) = false := by rw [beq_eq_false_iff_ne]; omega
  unfold GivesOne at HS HR
  clear her
  go_enter Try.func7, Try.ntmps7
  go_wp2_with fail
  refine (awake_any _).mono ?_
  rintro e w1 ⟨rfl, hb1⟩
  go_wp2_with fail
  refine (HS.out w1).mono ?_
  rintro e w2 ⟨ta, tc, pa, pc, rfl, hR2, hO2, hb2⟩
  have hbw2 : Below w.heap.size w w2 := (hb1.alloc hb1.size _).trans (hb2.mono (by have := hb1.size; omega))
  clear hO2
  go_wp2_with fail
  refine (HR.out w2).mono ?_
  rintro e w3 ⟨ua, uc, qa, qc, rfl, hR3, hO3, hb3⟩
  have hbw3 : Below w.heap.size w w3 := (hbw2.alloc hbw2.size _).trans (hb3.mono (by have := hbw2.size; omega))
  have hc3 := (Bys.own (zs := []) (by decide) (own_below (hR2.alloc (.cells #[.string s] 9)) (by simpa using hb3))).conv tc
  have hd3 := (Bys.own (zs := []) (by decide) hR3).conv uc
  simp only [List.length_nil] at hc3 hd3
  clear hR2 hR3 hO3
  go_wp2
  go_ret
  exact ⟨rfl, hbw3⟩
set_option maxRecDepth 100000 in
set_option maxHeartbeats 800000 in
/-- The law's road where it doesn't. -/
theorem core (s : ByteArray) (w : World) (hsz : (s.size : Int) ≤ 2000) (hz : NoZ (bs s))
    (HS : Hid (GivesOne 15 s (tab [s] 1) (outs [s] 1) 0)) (HR : Hid (GivesOne 16 s (tab [s] 1) (outs [s] 1) 0)) :
    Calls Try.prog 7 #[.string s] w fun e w' => e = .returned (.bool true) ∧ Below w.heap.size w w' := by
  have HZ := Lib.hid hz
  have HPOS := Lib.hid (pos_one s)
  have HOUT : Hid (outs [s] 1 = [(pos [s] 1 s : Int)]) := Lib.hid rfl
  unfold GivesOne at HS HR
  rw [HOUT.out] at HS HR
  clear hz
  go_enter Try.func7, Try.ntmps7
  go_wp2_with fail
  refine (awake_any _).mono ?_
  rintro e w1 ⟨rfl, hb1⟩
  go_wp2_with fail
  refine (HS.out w1).mono ?_
  rintro e w2 ⟨ta, tc, pa, pc, rfl, hR2, hO2, hb2⟩
  have hbw2 : Below w.heap.size w w2 := (hb1.alloc hb1.size _).trans (hb2.mono (by have := hb1.size; omega))
  have HR2 := Lib.hid hR2
  have HO2 := Lib.hid hO2
  clear hO2 hR2
  go_wp2_with fail
  refine (HR.out w2).mono ?_
  rintro e w3 ⟨ua, uc, qa, qc, rfl, hR3, hO3, hb3⟩
  have hbw3 : Below w.heap.size w w3 := (hbw2.alloc hbw2.size _).trans (hb3.mono (by have := hbw2.size; omega))
  have HR3 := Lib.hid (own_below (HR2.out.alloc (.cells #[.string s] 9)) (by simpa using hb3))
  have HO3 := Lib.hid (own_below (HO2.out.alloc (.cells #[.string s] 9)) (by simpa using hb3))
  have HBY := Lib.hid (Bys.own (tab_bd _ _) HR3.out)
  have hc3 := HBY.out.conv tc
  have hd3 := (Bys.own (tab_bd _ _) hR3).conv uc
  obtain ⟨g, c, hv, _⟩ := own_some HO3.out (by simp)
  injection hv with hv1 hv2 hv3
  subst hv1; subst hv3
  have hp := HO3.out.cellAt 0 (by simp)
  rw [show ([(pos [s] 1 s : Int)].map (Value.int .u64))[0]? = some (.int .u64 (pos [s] 1 s : Int)) from rfl] at hp
  have HAT := Lib.hid (at_name (cap := tc) w3 (L := [s]) (n := 1) (s := s) (.inr ⟨0, by decide, rfl⟩) HZ.out HBY.out (own_cap HR3.out).1 (own_cap HR3.out).2)
  clear hR3 hO3 hv2
  by_cases hse : s = .empty
  · have hse1 : s.toList = [] := by rw [hse]; exact toList_empty
    rw [show pos [s] 1 s = 0 from by rw [HPOS.out, if_pos hse]] at hp HAT
    clear hse
    go_wp2_with (go_at_call 10; refine HAT.out.mono ?_; rintro e w' ⟨rfl, rfl⟩)
    go_ret
    exact ⟨rfl, hbw3⟩
  · have hse1 := toList_full hse
    rw [show pos [s] 1 s = 1 from by rw [HPOS.out, if_neg hse]] at hp HAT
    clear hse
    go_wp2_with (go_at_call 10; refine HAT.out.mono ?_; rintro e w' ⟨rfl, rfl⟩)
    go_ret
    exact ⟨rfl, hbw3⟩
set_option maxRecDepth 100000 in
set_option maxHeartbeats 1600000 in
theorem walk (a0 : ByteArray) (w : World) (w0 : a0.size ≤ maxLen) :
    Calls Try.prog 7 #[.string a0] w fun e w' => e = .returned (.bool true) ∧ Below w.heap.size w w' := by
  by_cases h : a0.size ≤ 2000
  · have hi : (a0.size : Int) ≤ 2000 := by omega
    obtain ⟨R, O, er, hr⟩ := res_ex [a0]
    have h1 := build_one w0 hr
    have h2 := rbuild_one (show a0.size ≤ 1000000 by omega) hr
    rcases hr with ⟨rfl, rfl, rfl, _⟩ | ⟨rfl, rfl, rfl, _⟩ | ⟨rfl, rfl, rfl, hc, ht⟩
    · exact core_no a0 _ w (.inl rfl) hi (Lib.hid h1) (Lib.hid h2)
    · exact core_no a0 _ w (.inr rfl) hi (Lib.hid h1) (Lib.hid h2)
    · exact core a0 w hi (hc 0 (by simp)) (Lib.hid h1) (Lib.hid h2)
  · have hi : (2000 : Int) < (a0.size : Int) := by omega
    have hm : (a0.size : Int) ≤ 9223372036854775807 := by unfold maxLen at w0; omega
    clear h w0
    go_enter Try.func7, Try.ntmps7
    go_wp2_with (go_at_call 9; refine (awake_any _).mono ?_; rintro e w1 ⟨rfl, hb1⟩)
    go_ret
    exact ⟨rfl, by assumption⟩

set_option maxRecDepth 100000 in
theorem lifted (os : Os) (started : os.Started) (H : Type) (enc : TypeId × Value → H) :
    ReturnsInHanded {} Try.checked os 7 .any (Rows.namesOneSpec.pre6 enc Try.prog Try.f7 Rows.namesOneRow.domain false) (Rows.namesOneSpec.post enc Try.prog Try.f7 false true false false) := by
  refine returnsInHanded_of_change (C := Try.checked) own started (by kernel_rfl) Try.func7
    (ChangeSpec.witness6 (enc := enc) (C := Try.checked) false ⟨#[], #[.string ByteArray.empty], []⟩ 8 (by kernel_rfl) (by kernel_rfl) (by kernel_rfl) (by kernel_rfl)) ?_
  intro W base args ds gs before hval0 hW hcnd _
  have hval : ∀ (j : Nat) t v, Try.f7.params[j]? = some t → args[j]? = some v → Value.okWide Try.prog W .any base t v := hval0
  have hW' := hW
  obtain ⟨p, q, hA0, hV, rfl, hfz, hnd⟩ := hW
  have hA : DataW.TrodAll enc Try.prog W 0 (fun _ => true) true Try.f7.params.toList args.toList ds p := hA0
  rw [Try.params7] at hA hval
  obtain ⟨v0, vs0, d0, ds0, p0, q0, hargs, rfl, rfl, h0, r0⟩ := trodAll_cons hA
  obtain ⟨rfl, rfl, rfl⟩ := trodAll_nil r0
  obtain rfl : args = #[v0] := by cases args; simp_all
  obtain ⟨rfl, rfl⟩ := trodVars_none hV
  obtain ⟨a0, rfl, rfl, rfl, w0⟩ := open_string Try.underlying9 (hval 0 9 v0 rfl rfl) h0
  clear hA0 hval0
  refine (walk a0 W w0).mono fun e W' ⟨he, bel⟩ => ?_
  subst he
  exact ⟨_, rfl, _, _, _, [], _, [], hW', trodAll_mk1 (shut_bool Try.underlying4 _), (trodAll_cons_mk (shut_string Try.underlying9 w0) trodAll_mk0), rfl, bel.frame _, fun h => by cases h⟩

theorem over : Rows.namesOneRow.holds Try.pinned (OpenSpec.ofChange Rows.namesOneSpec) :=
  OpenClaim.holds_of_wide 7 Try.f7 rfl rfl rfl rfl rfl rfl rfl ⟨rfl, rfl, rfl, rfl, rfl⟩ rfl rfl rfl rfl rfl (by kernel_rfl) Try.func7 (by kernel_rfl)
    (of_decide_eq_true (by kernel_rfl)) (by unfold Func.isWrapper; first | (rw [if_pos (by decide +kernel)]; kernel_rfl) | (rw [if_neg (by decide +kernel)]; exact ⟨rfl, rfl⟩))
    (fun os started H enc _ => lifted os started H enc)

theorem proved : Rows.NamesOneSaid := over
#print axioms proved
end Go.Proofs.Ytncnmgmkmjikcaa.namesOne
