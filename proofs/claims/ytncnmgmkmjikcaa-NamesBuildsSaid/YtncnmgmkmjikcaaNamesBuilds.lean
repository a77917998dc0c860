/-
  What is proved here: the law NamesBuilds: for every input it returns true and leaves its argument as it was.
  Conditions: none of our own; the law's row says what its input is.
-/
import Derived.Test.YtncnmgmkmjikcaaRows
import Derived.Test.YtncnmgmkmjikcaaNamRes
import Derived.WalkKit
import Derived.ProofKit
import Derived.OpenShut
import Derived.ShutString
import Derived.ChangeOld
import Derived.Below
namespace Go.Proofs.Ytncnmgmkmjikcaa.namesBuilds
open Go.ChangeShapes Go.WideShapes Go.ChangeAt Go.RowKit
open Go.ChangeMaps (open_string shut_string)
set_option linter.unusedVariables false

theorem own : ownKnob Try.prog.godebug = none := by kernel_rfl
theorem laidOut : laidOutB Try.prog = true := by kernel_rfl

set_option maxRecDepth 100000 in
set_option maxHeartbeats 800000 in
/-- The law's road, whatever the two calls make (the same bytes R, the same places O, the same error). -/
theorem core (a : Option Addr) (len cap : Nat) (R O : List Int) (er : Int) (w : World) (hR : ∀ y ∈ R, 0 ≤ y ∧ y ≤ 255) (hO : (O.length : Int) ≤ 1000000)
    (HL : Hid (∀ W : World, Below w.heap.size w W → Calls Try.prog 14 #[.slice a len cap] W fun e W' => e = .returned (.bool false) ∧ W = W'))
    (HS : Hid (Gives 15 (.slice a len cap) w R O er)) (HR : Hid (Gives 16 (.slice a len cap) w R O er)) :
    Calls Try.prog 4 #[.slice a len cap] w fun e w' => e = .returned (.bool true) ∧ Below w.heap.size w w' := by
  have HRB := Lib.hid hR
  obtain ⟨m, hm⟩ : ∃ m, m = R.length := ⟨_, rfl⟩
  obtain ⟨q, hq⟩ : ∃ q, q = O.length := ⟨_, rfl⟩
  rw [← hq] at hO
  unfold Gives at HS HR
  rw [← hm, ← hq] at HS HR
  have HM := Lib.hid hm
  have HQ := Lib.hid hq
  clear hR hm hq
  go_enter Try.func4, Try.ntmps4
  go_wp2_with fail
  refine (awake_any _).mono ?_
  rintro e w1 ⟨rfl, hb1⟩
  go_wp2_with fail
  refine (HL.out _ hb1).mono ?_
  rintro e w' ⟨rfl, rfl⟩
  go_wp2_with fail
  refine (HS.out _ hb1).mono ?_
  rintro e w2 ⟨ta, tc, pa, pc, rfl, hR2, hO2, hb2⟩
  have HR2 := Lib.hid hR2
  have HO2 := Lib.hid hO2
  have hbw2 := hb1.trans (hb2.mono hb1.size)
  clear hR2 hO2
  go_wp2_with fail
  refine (HR.out _ hbw2).mono ?_
  rintro e w3 ⟨ua, uc, qa, qc, rfl, hR3, hO3, hb3⟩
  have hc3 := ((Bys.own HRB.out (HM.out ▸ HR2.out)).below hb3).conv tc
  rw [← HM.out] at hc3
  have hd3 := (Bys.own HRB.out (HM.out ▸ hR3)).conv uc
  rw [← HM.out] at hd3
  have hbw3 := hbw2.trans (hb3.mono hbw2.size)
  have HP3 := Lib.hid (own_below HO2.out hb3)
  have HQ3 := Lib.hid hO3
  clear hR3 hO3
  go_wp2_with fail
  go_loopw [11] (fun i wr => ∃ k : Nat, k ≤ q ∧ i = .int .i64 k ∧ wr.ownsRow w1.heap.size 23 1 (.slice pa q pc) q (O.map (Value.int .u64)) ∧ wr.ownsRow w2.heap.size 23 1 (.slice qa q qc) q (O.map (Value.int .u64)) ∧ Below w.heap.size w wr) (fun i _ => q - (intOf i).toNat)
  case atStart => exact ⟨0, Nat.zero_le _, rfl, HP3.out, HQ3.out, hbw3⟩
  case round =>
    obtain ⟨k, hk, rfl, hp, hq, hbel⟩ := hrel
    have HP := Lib.hid hp
    have HQW := Lib.hid hq
    have HBL := Lib.hid hbel
    by_cases hlt : k < q
    · obtain ⟨g, c, hv, _⟩ := own_some hp (by omega)
      injection hv with hv1 hv2 hv3
      subst hv1; subst hv3; clear hv2
      obtain ⟨g', c', hv', _⟩ := own_some hq (by omega)
      injection hv' with hv1' hv2' hv3'
      subst hv1'; subst hv3'; clear hv2'
      have hc1 := hp.cellAt k (by omega)
      have hc2 := hq.cellAt k (by omega)
      rw [getElem_map_u64 (by have := HQ.out; omega)] at hc1 hc2
      generalize O.getD k 0 = y at hc1 hc2
      clear hp hq hbel
      go_wp2_with fail
      go_quiet (fail)
      go_wp2
      go_roundw
      case rel => exact ⟨k + 1, by omega, by go_num, own_drewN HP.out _, own_drewN HQW.out _, below_drewN HBL.out _⟩
      case measure => simp [intOf]; omega
    · clear hp hq hbel
      go_wp2
      go_ret
      exact ⟨rfl, HBL.out⟩
/-- Where the names are too many, or too long. -/
theorem over0 (a : Option Addr) (len cap : Nat) (w : World)
    (HL : Hid (∀ W : World, Below w.heap.size w W → Calls Try.prog 14 #[.slice a len cap] W fun e W' => e = .returned (.bool true) ∧ W = W')) :
    Calls Try.prog 4 #[.slice a len cap] w fun e w' => e = .returned (.bool true) ∧ Below w.heap.size w w' := by
  go_enter Try.func4, Try.ntmps4
  go_wp2_with fail
  refine (awake_any _).mono ?_
  rintro e w1 ⟨rfl, hb1⟩
  go_wp2_with (go_at_call 14; refine (HL.out _ hb1).mono ?_; rintro e w' ⟨rfl, rfl⟩)
  go_ret
  exact ⟨rfl, hb1⟩
set_option maxRecDepth 100000 in
set_option maxHeartbeats 1600000 in
theorem walk (a0 : Option Addr) (len0 cap0 : Nat) (z0 : List ByteArray) (w : World) (w0 : IsStrs w a0 len0 cap0 z0) :
    Calls Try.prog 4 #[.slice a0 len0 cap0] w fun e w' => e = .returned (.bool true) ∧ Below w.heap.size w w' := by
  obtain ⟨hs, hcap, hcm, hsz⟩ := w0.strs
  have hl : (len0 : Int) ≤ 9223372036854775807 := by omega
  by_cases h60 : len0 ≤ 60
  · rcases long_or (z0.take len0) len0 hs.1 with hz | ⟨n, h1, h2, h3⟩
    · obtain ⟨R, O, er, hr⟩ := res_ex (z0.take len0)
      have hO : (O.length : Int) ≤ 1000000 := by
        rcases hr with ⟨_, _, rfl, _⟩ | ⟨_, _, rfl, _⟩ | ⟨_, _, rfl, _⟩
        · simp
        · simp
        · rw [outs_len, hs.1]; omega
      exact core a0 len0 cap0 R O er w hr.bd hO (Lib.hid fun W hW => long_no _ _ _ _ _ W (hs.below hW) h60 hz) (Lib.hid (build_gives _ hs (by omega) hsz hr)) (Lib.hid (rbuild_gives _ hs (by omega) (fun i => Nat.le_trans (hz i) (by decide)) hr))
    · exact over0 a0 len0 cap0 w (Lib.hid fun W hW => long_big _ _ _ _ _ W n (hs.below hW) h60 hsz h1 h2 h3)
  · exact over0 a0 len0 cap0 w (Lib.hid fun W hW => long_many _ _ _ W (by omega) hl)

set_option maxRecDepth 100000 in
theorem lifted (os : Os) (started : os.Started) (H : Type) (enc : TypeId × Value → H) :
    ReturnsInHanded {} Try.checked os 4 .any (Rows.namesBuildsSpec.pre6 enc Try.prog Try.f4 Rows.namesBuildsRow.domain false) (Rows.namesBuildsSpec.post enc Try.prog Try.f4 false true false false) := by
  refine returnsInHanded_of_change (C := Try.checked) own started (by kernel_rfl) Try.func4
    (ChangeSpec.witness6 (enc := enc) (C := Try.checked) false ⟨#[], #[.slice none 0 0], []⟩ 8 (by kernel_rfl) (by kernel_rfl) (by kernel_rfl) (by kernel_rfl)) ?_
  intro W base args ds gs before hval0 hW hcnd _
  have hval : ∀ (j : Nat) t v, Try.f4.params[j]? = some t → args[j]? = some v → Value.okWide Try.prog W .any base t v := hval0
  have hW' := hW
  obtain ⟨p, q, hA0, hV, rfl, hfz, hnd⟩ := hW
  have hA : DataW.TrodAll enc Try.prog W 0 (fun _ => true) true Try.f4.params.toList args.toList ds p := hA0
  rw [Try.params4] at hA hval
  obtain ⟨v0, vs0, d0, ds0, p0, q0, hargs, rfl, rfl, h0, r0⟩ := trodAll_cons hA
  obtain ⟨rfl, rfl, rfl⟩ := trodAll_nil r0
  obtain rfl : args = #[v0] := by cases args; simp_all
  obtain ⟨rfl, rfl⟩ := trodVars_none hV
  obtain ⟨a0, len0, cap0, rfl⟩ := okWide_slice Try.underlying30 (hval 0 30 v0 rfl rfl)
  have k0 := h0
  have lt0 : ∀ x ∈ p0, x.block < W.heap.size := by obtain ⟨m, hm⟩ := k0; exact DataW.trod_lt m _ _ _ hm
  obtain ⟨z0, w0⟩ : ∃ zs, IsStrs W a0 len0 cap0 zs := by
    obtain ⟨fuel, hf⟩ := h0
    rcases open_strings Try.underlying30 Try.underlying9 (by kernel_rfl) hf with ⟨hcs, _⟩ | ⟨x, l, c, zs, hcs, _, hl, hm, hz, _, hcell, hwz⟩
    · simp [Value.cells] at hcs
      obtain ⟨rfl, rfl, rfl⟩ := hcs
      exact ⟨[], .inl ⟨rfl, rfl, rfl, rfl⟩⟩
    · simp [Value.cells] at hcs
      obtain ⟨rfl, rfl, rfl⟩ := hcs
      exact ⟨zs, .inr ⟨_, rfl, hl, hm, by simpa using hz, hcell, hwz⟩⟩
  clear hA0 hval0
  refine (walk a0 len0 cap0 z0 W w0).mono fun e W' ⟨he, bel⟩ => ?_
  subst he
  exact ⟨_, rfl, _, _, _, [], _, [], hW', trodAll_mk1 (shut_bool Try.underlying4 _), (trodAll_cons_mk (Below.trod laidOut (by kernel_rfl) (of_decide_eq_true (by kernel_rfl)) k0 bel lt0) trodAll_mk0), rfl, bel.frame _, fun h => by cases h⟩

theorem over : Rows.namesBuildsRow.holds Try.pinned (OpenSpec.ofChange Rows.namesBuildsSpec) :=
  OpenClaim.holds_of_wide 4 Try.f4 rfl rfl rfl rfl rfl rfl rfl ⟨rfl, rfl, rfl, rfl, rfl⟩ rfl rfl rfl rfl rfl (by kernel_rfl) Try.func4 (by kernel_rfl)
    (of_decide_eq_true (by kernel_rfl)) (by unfold Func.isWrapper; first | (rw [if_pos (by decide +kernel)]; kernel_rfl) | (rw [if_neg (by decide +kernel)]; exact ⟨rfl, rfl⟩))
    (fun os started H enc _ => lifted os started H enc)

theorem proved : Rows.NamesBuildsSaid := over
#print axioms proved
end Go.Proofs.Ytncnmgmkmjikcaa.namesBuilds
