/-
  What is proved here: IsaCodes: any lines are the words that the reference says, or refused at the line that it says.
  Conditions: none of our own; the law's row says what its input is.
-/
import Derived.Test.YtjpbbonkmnbabaaDoorRows
import Derived.Test.YtjpbbonkmnbabaaDoorIsaCut
import Derived.Test.YtjpbbonkmnbabaaDoorApp
import Derived.Test.YtjpbbonkmnbabaaDoorMask
import Derived.WalkKit
import Derived.ProofKit
import Derived.OpenShut
import Derived.ShutString
import Derived.ChangeOld
import Derived.Below
import Derived.Test.YtjpbbonkmnbabaaDoorTie
import Derived.Test.YtjpbbonkmnbabaaDoorCards
import Derived.SevenTiedAt
import Derived.Lay
import Derived.LaidMore
import Derived.Stop.Joined
import Derived.Test.YtjpbbonkmnbabaaDoorCard
namespace Go.Proofs.YtjpbbonkmnbabaaDoor.isaCodes
open Go.ChangeShapes Go.WideShapes Go.ChangeAt Go.RowKit
open Go.ChangeMaps (open_string shut_string)
set_option linter.unusedVariables false

theorem own : ownKnob Tryd.prog.godebug = none := by kernel_rfl
theorem laidOut : laidOutB Tryd.prog = true := by kernel_rfl

theorem bd12_i64 {n : Int} (h : (Lit.int .i64 n).wf = true) : -9223372036854775808 ≤ n ∧ n ≤ 9223372036854775807 := by
  simpa [Lit.wf, IntKind.min, IntKind.max, IntKind.signed, IntKind.bits] using h
theorem bd12_i32 {n : Int} (h : (Lit.int .i32 n).wf = true) : -2147483648 ≤ n ∧ n ≤ 2147483647 := by
  simpa [Lit.wf, IntKind.min, IntKind.max, IntKind.signed, IntKind.bits] using h
theorem codeI_bd (s : ByteArray) : ∀ n ∈ (codeI s).1, 0 ≤ n ∧ n ≤ 255 := by
  have h : ∀ f i fr line out, (∀ n ∈ out, 0 ≤ n ∧ n ≤ 255) → ∀ n ∈ (codeL s f i fr line out).1, 0 ≤ n ∧ n ≤ 255 := by
    intro f
    induction f with
    | zero => intro i fr line out ho n hn; exact ho n hn
    | succ f ih =>
      intro i fr line out ho n hn
      unfold codeL at hn
      split at hn
      · exact ho n hn
      · split at hn
        · exact ih _ _ _ _ ho n hn
        · split at hn
          · exact ih _ _ _ _ ho n hn
          · split at hn
            · cases hn
            · refine ih _ _ _ _ (fun m hm => ?_) n hn
              rcases List.mem_append.1 hm with hm | hm
              · exact ho m hm
              · exact digs_bd _ _ m hm
  unfold codeI
  split
  · intro n hn; cases hn
  · exact h _ _ _ _ _ (fun n hn => by cases hn)
set_option maxRecDepth 100000 in
set_option maxHeartbeats 1600000 in
theorem walk (a0 : ByteArray) (w : World) (hTB : Tb w) (w0 : a0.size ≤ maxLen) :
    Calls Tryd.prog 7 #[.string a0] w fun e w' => e = .returned (.bool true) ∧ Below w.heap.size w w' := by
  have HTB := Lib.hid hTB
  clear hTB
  go_enter Tryd.func7, Tryd.ntmps7
  go_wp2_with fail
  refine (awake12_any _ HTB.out).mono ?_
  rintro r v1 ⟨rfl, hb1⟩
  have HB1 := Lib.hid hb1
  clear hb1
  by_cases hbig : 3000 < a0.size
  · have hbi : (3000 : Int) < a0.size := by omega
    go_wp2
    go_ret
    exact ⟨rfl, HB1.out⟩
  have hbi : (a0.size : Int) ≤ 3000 := by omega
  have HC1 := Lib.hid (fun v (hb : Below w.heap.size w v) => icode_any a0 v (by omega) (HTB.out.later hb))
  have HC2 := Lib.hid (fun v => rcode_any a0 v (by omega))
  have HBD := Lib.hid (codeI_bd a0)
  generalize codeI a0 = Z at HC1 HC2 HBD
  obtain ⟨zs, e, n⟩ := Z
  simp only at HBD
  go_wp2_with fail
  refine (HC1.out _ HB1.out).mono ?_
  rintro r v2 ⟨⟨u, rfl, ho⟩, hb2⟩
  obtain ⟨ua, uc, rfl⟩ := own_slice ho
  have HB2 := Lib.hid (HB1.out.trans (hb2.mono HB1.out.size))
  have HO2 := Lib.hid ho
  clear ho hb2
  go_wp2_with fail
  refine (HC2.out _).mono ?_
  rintro r v3 ⟨⟨u, rfl, ho⟩, hb3⟩
  obtain ⟨ta, tc, rfl⟩ := own_slice ho
  have HB3 := Lib.hid (HB2.out.trans (hb3.mono HB2.out.size))
  have hcv1 : (convert 49 9 (.slice ua zs.length uc)).run Tryd.prog v3 = .ok (.string (strOfNums zs)) v3 := (Bys.own HBD.out (own_below HO2.out hb3)).conv uc
  have hcv2 : (convert 49 9 (.slice ta zs.length tc)).run Tryd.prog v3 = .ok (.string (strOfNums zs)) v3 := (Bys.own HBD.out ho).conv tc
  generalize strOfNums zs = S at hcv1 hcv2
  clear ho hb3 HO2 HC1 HC2
  go_wp2
  go_ret
  exact ⟨by simp, HB3.out⟩

set_option maxRecDepth 100000 in
theorem lifted (os : Os) (started : os.Started) (H : Type) (enc : TypeId × Value → H) :
    ReturnsInHanded {} Tryd.checked os 7 .any (fun w args => (Rows.isaCodesSpec.pre enc Tryd.prog Tryd.f7 [] false w args ∧ laidMetH Tryd.prog laid12 w) ∧ sizedMet enc Tryd.prog Tryd.f7 (OpenSpec.ofChange Rows.isaCodesSpec) false w args) (Rows.isaCodesSpec.post enc Tryd.prog Tryd.f7 false true false false) := by
  refine wrapLaid (C := Tryd.checked) (laid := laid12) own started (by kernel_rfl) Tryd.func7
    (ChangeSpec.witness_shaped (enc := enc) (C := Tryd.checked) (os := os) (X := fun w _ => laidMetH Tryd.prog laid12 w) false (World.laidAll Tryd.prog os laid12) #[.string ByteArray.empty] 8 (World.laidAll_os _ _ _) (World.shaped_of_ZipB (by kernel_rfl) (by kernel_rfl)) (by kernel_rfl) (by kernel_rfl) (by kernel_rfl)
      (by rw [MakeChecks.laidMetH_plain _ _ _ (by kernel_rfl)]; exact laidMet_laidAll _ (by kernel_rfl) (by kernel_rfl))) ?_
  intro W base args ds gs before hval0 hW hL hsh
  have hval : ∀ (j : Nat) t v, Tryd.f7.params[j]? = some t → args[j]? = some v → Value.okWide Tryd.prog W .any base t v := hval0
  have hW' := hW
  obtain ⟨p, q, hA0, hV, rfl, hfz, hnd⟩ := hW
  have hA : DataW.TrodAll enc Tryd.prog W 0 (fun _ => true) true Tryd.f7.params.toList args.toList ds p := hA0
  rw [Tryd.params7] at hA hval
  obtain ⟨v0, vs0, d0, ds0, p0, q0, hargs, rfl, rfl, h0, r0⟩ := trodAll_cons hA
  obtain ⟨rfl, rfl, rfl⟩ := trodAll_nil r0
  obtain rfl : args = #[v0] := by cases args; simp_all
  obtain ⟨rfl, rfl⟩ := trodVars_none hV
  obtain ⟨a0, rfl, rfl, rfl, w0⟩ := open_string Tryd.underlying9 (hval 0 9 v0 rfl rfl) h0
  clear hA0 hval0
  refine (walk a0 W (tb_of_laid hL hsh) w0).mono fun e W' ⟨he, bel⟩ => ?_
  subst he
  exact ⟨_, rfl, _, _, _, [], _, [], hW', trodAll_mk1 (shut_bool Tryd.underlying4 _), (trodAll_cons_mk (shut_string Tryd.underlying9 w0) trodAll_mk0), rfl, bel.frame _, fun h => by cases h⟩

theorem over : Rows.isaCodesRow.holds Tryd.pinned (OpenSpec.ofChange Rows.isaCodesSpec) :=
  OpenClaim.holds_of_wide 7 Tryd.f7 rfl rfl rfl rfl rfl rfl rfl ⟨rfl, rfl, rfl, rfl, rfl⟩ rfl rfl rfl rfl rfl (by kernel_rfl) Tryd.func7 (by kernel_rfl)
    (of_decide_eq_true (by kernel_rfl)) (by unfold Func.isWrapper; first | (rw [if_pos (by decide +kernel)]; kernel_rfl) | (rw [if_neg (by decide +kernel)]; exact ⟨rfl, rfl⟩))
    (fun os started H enc _ => lifted os started H enc)

theorem proved : Rows.IsaCodesCardSaid :=
  Claim7.holds_tied_plain_at .later [] [.data, .data, .data, .data, .sentinel, .sentinel, .data, .data, .pinned] true (true, "d89ea6c87e700680fd9f7b0e2cadb954407153fce9f48a275aa9c1ac018cb73b") true over (fun _ h => by cases h) (by kernel_rfl) (fun _ h => by cases h) isaCodes_row_tie rfl ⟨rfl, rfl⟩ (by kernel_rfl) rfl
    (fun f fn hf hfn => by
      obtain rfl : f = 7 := (Option.some.inj ((show Tryd.prog.funcNamed "dormouse/dormouselaw12.IsaCodes" = some 7 by kernel_rfl).symm.trans hf)).symm
      obtain rfl : fn = Tryd.f7 := (Option.some.inj (Tryd.func7.symm.trans hfn)).symm
      exact ⟨by kernel_rfl, fun j t ht => by
        rw [Tryd.params7] at ht
        have hm : t ∈ [9] := by simpa using Array.mem_of_getElem? ht
        have hall : ([9].all fun u => !Tryd.prog.wantsStandIn u) = true := by kernel_rfl
        exact (show Tryd.prog.wantsStandIn t = false by simpa using List.all_eq_true.1 hall t hm)⟩)
    (by kernel_rfl)
#print axioms proved
end Go.Proofs.YtjpbbonkmnbabaaDoor.isaCodes
