/-
  What is proved here: the law OctetsRounds: for every input it returns true and leaves its arguments as they were.
  Conditions: none of our own; the law's row says what its input is.
-/
import Derived.Test.YtjcjngmcjlffaaaRows
import Derived.Test.YtjcjngmcjlffaaaOctAwake
import Derived.WalkKit
import Derived.ProofKit
import Derived.OpenShut
import Derived.ShutString
import Derived.Below
namespace Go.Proofs.Ytjcjngmcjlffaaa.octetsRounds
open Go.ChangeShapes Go.WideShapes Go.ChangeAt Go.RowKit
open Go.ChangeMaps (open_string shut_string)
set_option linter.unusedVariables false      -- a walk need not use every 'w<i>' (that an integer argument fits its kind)

theorem own : ownKnob Try.prog.godebug = none := by kernel_rfl

set_option maxHeartbeats 800000 in
theorem walk (a0 : Int) (a1 : Int) (w0 : (Lit.int .u64 a0).wf = true) (w1 : (Lit.int .u64 a1).wf = true) (w : World) :
    Calls Try.prog 6 #[.int .u64 a0, .int .u64 a1] w fun e w' => e = .returned (.bool true) ∧ Below w.heap.size w w' := by
  obtain ⟨a00, a01⟩ := bd_u64 w0
  obtain ⟨a10, a11⟩ := bd_u64 w1
  clear w0 w1
  by_cases hp : IsP2 a1
  · obtain ⟨m0, m1, m2, m3, m4, m5, m6, m7, m8⟩ := mult_p2 hp a00 a01
    have HP := Lib.hid hp
    by_cases hx : a0 / a1 * a1 = a0
    · have HX := Lib.hid hx
      clear hp hx m0 m1 m2 m3 m4 m5 m6 m7 m8
      go_enter Try.func6, Try.ntmps6
      go_wp2_with (first | (go_at_call 11; refine (awake_any _).mono ?_; rintro e w1 ⟨rfl, hb1⟩) | (go_at_call 18; refine (up_same _ _ _ a00 a01 HP.out HX.out).mono ?_; rintro e w' ⟨rfl, rfl⟩) | (go_at_call 19; refine (rup_same _ _ _ a00 a01 HP.out HX.out).mono ?_; rintro e w' ⟨rfl, nd, rfl⟩) | (go_at_call 20; refine (down_ok _ _ _ a00 a01 HP.out).mono ?_; rintro e w' ⟨rfl, rfl⟩) | (go_at_call 21; refine (rdown_ok _ _ _ a00 a01 HP.out).mono ?_; rintro e w' ⟨rfl, rfl⟩))
      go_ret
      exact ⟨rfl, below_drewN (by assumption) _⟩
    · have HX := Lib.hid hx
      by_cases ht : a0 / a1 * a1 + a1 = 18446744073709551616
      · have HT := Lib.hid ht
        clear hp hx ht m0 m1 m2 m3 m4 m5 m6 m7 m8
        go_enter Try.func6, Try.ntmps6
        go_wp2_with (first | (go_at_call 11; refine (awake_any _).mono ?_; rintro e w1 ⟨rfl, hb1⟩) | (go_at_call 18; refine (up_range _ _ _ a00 a01 HP.out HX.out HT.out).mono ?_; rintro e w' ⟨rfl, rfl⟩) | (go_at_call 19; refine (rup_range _ _ _ a00 a01 HP.out HX.out HT.out).mono ?_; rintro e w' ⟨rfl, nd, rfl⟩) | (go_at_call 20; refine (down_ok _ _ _ a00 a01 HP.out).mono ?_; rintro e w' ⟨rfl, rfl⟩) | (go_at_call 21; refine (rdown_ok _ _ _ a00 a01 HP.out).mono ?_; rintro e w' ⟨rfl, rfl⟩))
        go_ret
        exact ⟨rfl, below_drewN (by assumption) _⟩
      · have HT := Lib.hid (show a0 / a1 * a1 + a1 ≤ 18446744073709551615 by omega)
        clear hp hx ht m0 m1 m2 m3 m4 m5 m6 m7 m8
        go_enter Try.func6, Try.ntmps6
        go_wp2_with (first | (go_at_call 11; refine (awake_any _).mono ?_; rintro e w1 ⟨rfl, hb1⟩) | (go_at_call 18; refine (up_next _ _ _ a00 a01 HP.out HX.out HT.out).mono ?_; rintro e w' ⟨rfl, rfl⟩) | (go_at_call 19; refine (rup_next _ _ _ a00 a01 HP.out HX.out HT.out).mono ?_; rintro e w' ⟨rfl, nd, rfl⟩) | (go_at_call 20; refine (down_ok _ _ _ a00 a01 HP.out).mono ?_; rintro e w' ⟨rfl, rfl⟩) | (go_at_call 21; refine (rdown_ok _ _ _ a00 a01 HP.out).mono ?_; rintro e w' ⟨rfl, rfl⟩))
        go_ret
        exact ⟨rfl, below_drewN (by assumption) _⟩
  · have HP := Lib.hid hp
    clear hp
    go_enter Try.func6, Try.ntmps6
    go_wp2_with (first | (go_at_call 11; refine (awake_any _).mono ?_; rintro e w1 ⟨rfl, hb1⟩) | (go_at_call 18; refine (up_arg _ _ _ a10 a11 HP.out).mono ?_; rintro e w' ⟨rfl, rfl⟩) | (go_at_call 19; refine (rup_arg _ _ _ a10 a11 HP.out).mono ?_; rintro e w' ⟨rfl, nd, rfl⟩) | (go_at_call 20; refine (down_arg _ _ _ a10 a11 HP.out).mono ?_; rintro e w' ⟨rfl, rfl⟩) | (go_at_call 21; refine (rdown_arg _ _ _ a10 a11 HP.out).mono ?_; rintro e w' ⟨rfl, rfl⟩))
    go_ret
    exact ⟨rfl, below_drewN (by assumption) _⟩

set_option maxRecDepth 100000 in
theorem lifted (os : Os) (started : os.Started) (H : Type) (enc : TypeId × Value → H) :
    ReturnsInHanded {} Try.checked os 6 .any (Rows.octetsRoundsSpec.pre6 enc Try.prog Try.f6 Rows.octetsRoundsRow.domain false) (Rows.octetsRoundsSpec.post enc Try.prog Try.f6 false true false false) := by
  refine returnsInHanded_of_change (C := Try.checked) own started (by kernel_rfl) Try.func6
    (ChangeSpec.witness6 (enc := enc) (C := Try.checked) false ⟨#[], #[.int .u64 0, .int .u64 0], []⟩ 8 (by kernel_rfl) (by kernel_rfl) (by kernel_rfl) (by kernel_rfl)) ?_
  intro W base args ds gs before hval0 hW hcnd _
  have hval : ∀ (j : Nat) t v, Try.f6.params[j]? = some t → args[j]? = some v → Value.okWide Try.prog W .any base t v := hval0
  have hW' := hW
  obtain ⟨p, q, hA0, hV, rfl, hfz, hnd⟩ := hW
  have hA : DataW.TrodAll enc Try.prog W 0 (fun _ => true) true Try.f6.params.toList args.toList ds p := hA0
  rw [Try.params6] at hA hval
  obtain ⟨v0, vs0, d0, ds0, p0, q0, hargs, rfl, rfl, h0, r0⟩ := trodAll_cons hA
  obtain ⟨v1, vs1, d1, ds1, p1, q1, rfl, rfl, rfl, h1, r1⟩ := trodAll_cons r0
  obtain ⟨rfl, rfl, rfl⟩ := trodAll_nil r1
  obtain rfl : args = #[v0, v1] := by cases args; simp_all
  obtain ⟨rfl, rfl⟩ := trodVars_none hV
  obtain ⟨a0, rfl, rfl, rfl, w0⟩ := open_int Try.underlying23 (hval 0 23 v0 rfl rfl) h0
  obtain ⟨a1, rfl, rfl, rfl, w1⟩ := open_int Try.underlying23 (hval 1 23 v1 rfl rfl) h1
  clear hA0 hval0
  simp only [List.append_nil] at hW'
  refine (walk a0 a1 w0 w1 W).mono fun e W' ⟨he, bel⟩ => ?_
  subst he
  exact ⟨_, rfl, _, _, _, [], _, [], hW', trodAll_mk1 (shut_bool Try.underlying4 _), (trodAll_cons_mk (shut_int Try.underlying23 w0) (trodAll_cons_mk (shut_int Try.underlying23 w1) trodAll_mk0)), rfl, bel.frame _, fun h => by cases h⟩

theorem over : Rows.octetsRoundsRow.holds Try.pinned (OpenSpec.ofChange Rows.octetsRoundsSpec) :=
  OpenClaim.holds_of_wide 6 Try.f6 rfl rfl rfl rfl rfl rfl rfl ⟨rfl, rfl, rfl, rfl, rfl⟩ rfl rfl rfl rfl rfl (by kernel_rfl) Try.func6 (by kernel_rfl)
    (of_decide_eq_true (by kernel_rfl)) (by unfold Func.isWrapper; first | (rw [if_pos (by decide +kernel)]; kernel_rfl) | (rw [if_neg (by decide +kernel)]; exact ⟨rfl, rfl⟩))
    (fun os started H enc _ => lifted os started H enc)

theorem proved : Rows.OctetsRoundsSaid :=
  over
#print axioms proved
end Go.Proofs.Ytjcjngmcjlffaaa.octetsRounds
