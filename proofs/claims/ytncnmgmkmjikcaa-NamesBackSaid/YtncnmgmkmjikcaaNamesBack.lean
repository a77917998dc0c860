/-
  What is proved here: the law NamesBack: for every input it returns true and leaves its argument as it was.
  Conditions: none of our own; the law's row says what its input is.
-/
import Derived.Test.YtncnmgmkmjikcaaRows
import Derived.Test.YtncnmgmkmjikcaaNamRes
import Derived.WalkKit
import Derived.ProofKit
import Derived.OpenShut
import Derived.ShutString
import Derived.ChangeOld
import Derived.Below
namespace Go.Proofs.Ytncnmgmkmjikcaa.namesBack
open Go.ChangeShapes Go.WideShapes Go.ChangeAt Go.RowKit
open Go.ChangeMaps (open_string shut_string)
set_option linter.unusedVariables false

theorem own : ownKnob Try.prog.godebug = none := by kernel_rfl
theorem laidOut : laidOutB Try.prog = true := by kernel_rfl

set_option maxRecDepth 100000 in
set_option maxHeartbeats 800000 in
/-- The law's road where Build hands back an error. -/
theorem core_no (a : Option Addr) (len cap : Nat) (er : Int) (w : World) (her : er = 1 ∨ er = 13)
    (HL : Hid (∀ W : World, Below w.heap.size w W → Calls Try.prog 14 #[.slice a len cap] W fun e W' => e = .returned (.bool false) ∧ W = W'))
    (HS : Hid (Gives 15 (.slice a len cap) w [] [] er)) :
    Calls Try.prog 5 #[.slice a len cap] w fun e w' => e = .returned (.bool true) ∧ Below w.heap.size w w' := by
  have her0 : (er == 0) = false := by rw [beq_eq_false_iff_ne]; omega
  clear her
  go_enter Try.func5, Try.ntmps5
  go_wp2_with fail
  refine (awake_any _).mono ?_
  rintro e w1 ⟨rfl, hb1⟩
  go_wp2_with fail
  refine (HL.out _ hb1).mono ?_
  rintro e w' ⟨rfl, rfl⟩
  go_wp2_with fail
  refine (HS.out _ hb1).mono ?_
  rintro e w2 ⟨ta, tc, pa, pc, rfl, hR2, hO2, hb2⟩
  have hbw2 := hb1.trans (hb2.mono hb1.size)
  clear hR2 hO2
  go_wp2
  go_ret
  exact ⟨rfl, hbw2⟩
set_option maxRecDepth 100000 in
set_option maxHeartbeats 800000 in
/-- The law's road where it doesn't. -/
theorem core (a : Option Addr) (len cap : Nat) (L : List ByteArray) (w : World) (hs : Strs w w.heap.size a len L) (hl : len ≤ 60) (hc : Clean L) (ht : (tab L L.length).length ≤ 65536)
    (HL : Hid (∀ W : World, Below w.heap.size w W → Calls Try.prog 14 #[.slice a len cap] W fun e W' => e = .returned (.bool false) ∧ W = W'))
    (HS : Hid (Gives 15 (.slice a len cap) w (tab L L.length) (outs L L.length) 0)) :
    Calls Try.prog 5 #[.slice a len cap] w fun e w' => e = .returned (.bool true) ∧ Below w.heap.size w w' := by
  have HST := Lib.hid hs
  have HC := Lib.hid hc
  have HLL := Lib.hid hs.1
  have hli : (len : Int) ≤ 60 := by omega
  have hti : ((tab L L.length).length : Int) ≤ 9223372036854775807 := by omega
  unfold Gives at HS
  rw [outs_len, HLL.out] at HS
  rw [HLL.out] at ht hti
  have HCH := Lib.hid (chk_tab L len)
  clear hs hc
  go_enter Try.func5, Try.ntmps5
  go_wp2_with fail
  refine (awake_any _).mono ?_
  rintro e w1 ⟨rfl, hb1⟩
  go_wp2_with fail
  refine (HL.out _ hb1).mono ?_
  rintro e w' ⟨rfl, rfl⟩
  go_wp2_with fail
  refine (HS.out _ hb1).mono ?_
  rintro e w2 ⟨ta, tc, pa, pc, rfl, hR2, hO2, hb2⟩
  have hbw2 := hb1.trans (hb2.mono hb1.size)
  have HBY := Lib.hid (Bys.own (tab_bd L len) hR2)
  have HCAP := Lib.hid (own_cap hR2)
  have HO2 := Lib.hid hO2
  have HCK : Hid (Calls Try.prog 12 #[.slice ta (tab L len).length tc] w2 fun e w' => e = .returned (.int .i64 0) ∧ w2 = w') := Lib.hid (by
    have := check_any _ _ _ tc _ _ HBY.out hti
    rw [HCH.out] at this
    exact this)
  have HSTW := Lib.hid (HST.out.below hbw2)
  clear hR2 hO2
  go_wp2_with (go_at_call 12; refine HCK.out.mono ?_; rintro e w' ⟨rfl, rfl⟩)
  go_loop [8] (fun i => ∃ k : Nat, k ≤ len ∧ i = .int .i64 k) (fun i => len - (intOf i).toNat)
  case atStart => exact ⟨0, Nat.zero_le _, rfl⟩
  case round =>
    obtain ⟨k, hk, rfl⟩ := hrel
    by_cases hlt : k < len
    · obtain ⟨g, c, hv, _⟩ := own_some HO2.out (by omega)
      injection hv with hv1 hv2 hv3
      subst hv1; subst hv3; clear hv2
      have hc1 := HO2.out.cellAt k (by omega)
      rw [getElem_map_u64 (by rw [outs_len]; exact hlt), outs_getD L hlt] at hc1
      obtain ⟨b, off, rfl, hbB, hcell⟩ := HSTW.out.2 (by omega)
      have hc2 := hcell k hlt
      have HAT := Lib.hid (at_name (cap := tc) w2 (L := L) (n := len) (s := nm L k) (.inr ⟨k, hlt, rfl⟩) (HC.out k (by rw [HLL.out]; exact hlt)) HBY.out HCAP.out.1 HCAP.out.2)
      have hc3 : w2.cell? ⟨b, off + k, none⟩ = some (.string (nm L k)) := hc2
      generalize hP : pos L len (nm L k) = P at hc1 HAT
      generalize nm L k = s at hc3 HAT
      clear hP hc2 hcell
      go_wp2_with (go_at_call 10; refine HAT.out.mono ?_; rintro e w' ⟨rfl, rfl⟩)
      go_round
      case rel => exact ⟨k + 1, by omega, by go_num⟩
      case measure => simp [intOf]; omega
    · obtain rfl : k = len := by omega
      go_wp2
      go_ret
      exact ⟨rfl, hbw2⟩
/-- Where the names are too many, or too long. -/
theorem over0 (a : Option Addr) (len cap : Nat) (w : World)
    (HL : Hid (∀ W : World, Below w.heap.size w W → Calls Try.prog 14 #[.slice a len cap] W fun e W' => e = .returned (.bool true) ∧ W = W')) :
    Calls Try.prog 5 #[.slice a len cap] w fun e w' => e = .returned (.bool true) ∧ Below w.heap.size w w' := by
  go_enter Try.func5, Try.ntmps5
  go_wp2_with fail
  refine (awake_any _).mono ?_
  rintro e w1 ⟨rfl, hb1⟩
  go_wp2_with (go_at_call 14; refine (HL.out _ hb1).mono ?_; rintro e w' ⟨rfl, rfl⟩)
  go_ret
  exact ⟨rfl, hb1⟩
set_option maxRecDepth 100000 in
set_option maxHeartbeats 1600000 in
theorem walk (a0 : Option Addr) (len0 cap0 : Nat) (z0 : List ByteArray) (w : World) (w0 : IsStrs w a0 len0 cap0 z0) :
    Calls Try.prog 5 #[.slice a0 len0 cap0] w fun e w' => e = .returned (.bool true) ∧ Below w.heap.size w w' := by
  obtain ⟨hs, hcap, hcm, hsz⟩ := w0.strs
  have hl : (len0 : Int) ≤ 9223372036854775807 := by omega
  by_cases h60 : len0 ≤ 60
  · rcases long_or (z0.take len0) len0 hs.1 with hz | ⟨n, h1, h2, h3⟩
    · have HL : Hid (∀ W : World, Below w.heap.size w W → Calls Try.prog 14 #[.slice a0 len0 cap0] W fun e W' => e = .returned (.bool false) ∧ W = W') := Lib.hid fun W hW => long_no _ _ _ _ _ W (hs.below hW) h60 hz
      obtain ⟨R, O, er, hr⟩ := res_ex (z0.take len0)
      have hg := build_gives cap0 hs (by omega) hsz hr
      rcases hr with ⟨rfl, rfl, rfl, _⟩ | ⟨rfl, rfl, rfl, _⟩ | ⟨rfl, rfl, rfl, hc, ht⟩
      · exact core_no a0 len0 cap0 _ w (.inl rfl) HL (Lib.hid hg)
      · exact core_no a0 len0 cap0 _ w (.inr rfl) HL (Lib.hid hg)
      · exact core a0 len0 cap0 _ w hs h60 hc ht HL (Lib.hid hg)
    · exact over0 a0 len0 cap0 w (Lib.hid fun W hW => long_big _ _ _ _ _ W n (hs.below hW) h60 hsz h1 h2 h3)
  · exact over0 a0 len0 cap0 w (Lib.hid fun W hW => long_many _ _ _ W (by omega) hl)

set_option maxRecDepth 100000 in
theorem lifted (os : Os) (started : os.Started) (H : Type) (enc : TypeId × Value → H) :
    ReturnsInHanded {} Try.checked os 5 .any (Rows.namesBackSpec.pre6 enc Try.prog Try.f5 Rows.namesBackRow.domain false) (Rows.namesBackSpec.post enc Try.prog Try.f5 false true false false) := by
  refine returnsInHanded_of_change (C := Try.checked) own started (by kernel_rfl) Try.func5
    (ChangeSpec.witness6 (enc := enc) (C := Try.checked) false ⟨#[], #[.slice none 0 0], []⟩ 8 (by kernel_rfl) (by kernel_rfl) (by kernel_rfl) (by kernel_rfl)) ?_
  intro W base args ds gs before hval0 hW hcnd _
  have hval : ∀ (j : Nat) t v, Try.f5.params[j]? = some t → args[j]? = some v → Value.okWide Try.prog W .any base t v := hval0
  have hW' := hW
  obtain ⟨p, q, hA0, hV, rfl, hfz, hnd⟩ := hW
  have hA : DataW.TrodAll enc Try.prog W 0 (fun _ => true) true Try.f5.params.toList args.toList ds p := hA0
  rw [Try.params5] at hA hval
  obtain ⟨v0, vs0, d0, ds0, p0, q0, hargs, rfl, rfl, h0, r0⟩ := trodAll_cons hA
  obtain ⟨rfl, rfl, rfl⟩ := trodAll_nil r0
  obtain rfl : args = #[v0] := by cases args; simp_all
  obtain ⟨rfl, rfl⟩ := trodVars_none hV
  obtain ⟨a0, len0, cap0, rfl⟩ := okWide_slice Try.underlying30 (hval 0 30 v0 rfl rfl)
  have k0 := h0
  have lt0 : ∀ x ∈ p0, x.block < W.heap.size := by obtain ⟨m, hm⟩ := k0; exact DataW.trod_lt m _ _ _ hm
  obtain ⟨z0, w0⟩ : ∃ zs, IsStrs W a0 len0 cap0 zs := by
    obtain ⟨fuel, hf⟩ := h0
    rcases open_strings Try.underlying30 Try.underlying9 (by kernel_rfl) hf with ⟨hcs, _⟩ | ⟨x, l, c, zs, hcs, _, hl, hm, hz, _, hcell, hwz⟩
    · simp [Value.cells] at hcs
      obtain ⟨rfl, rfl, rfl⟩ := hcs
      exact ⟨[], .inl ⟨rfl, rfl, rfl, rfl⟩⟩
    · simp [Value.cells] at hcs
      obtain ⟨rfl, rfl, rfl⟩ := hcs
      exact ⟨zs, .inr ⟨_, rfl, hl, hm, by simpa using hz, hcell, hwz⟩⟩
  clear hA0 hval0
  refine (walk a0 len0 cap0 z0 W w0).mono fun e W' ⟨he, bel⟩ => ?_
  subst he
  exact ⟨_, rfl, _, _, _, [], _, [], hW', trodAll_mk1 (shut_bool Try.underlying4 _), (trodAll_cons_mk (Below.trod laidOut (by kernel_rfl) (of_decide_eq_true (by kernel_rfl)) k0 bel lt0) trodAll_mk0), rfl, bel.frame _, fun h => by cases h⟩

theorem over : Rows.namesBackRow.holds Try.pinned (OpenSpec.ofChange Rows.namesBackSpec) :=
  OpenClaim.holds_of_wide 5 Try.f5 rfl rfl rfl rfl rfl rfl rfl ⟨rfl, rfl, rfl, rfl, rfl⟩ rfl rfl rfl rfl rfl (by kernel_rfl) Try.func5 (by kernel_rfl)
    (of_decide_eq_true (by kernel_rfl)) (by unfold Func.isWrapper; first | (rw [if_pos (by decide +kernel)]; kernel_rfl) | (rw [if_neg (by decide +kernel)]; exact ⟨rfl, rfl⟩))
    (fun os started H enc _ => lifted os started H enc)

theorem proved : Rows.NamesBackSaid := over
#print axioms proved
end Go.Proofs.Ytncnmgmkmjikcaa.namesBack
