/-
  What is proved here: the law NamesReads: for every input it returns true and leaves its arguments as they were.
  Conditions: none of our own; the law's row says what its input is.
-/
import Derived.Test.YtncnmgmkmjikcaaRows
import Derived.Test.YtncnmgmkmjikcaaNamAwake
import Derived.WalkKit
import Derived.ProofKit
import Derived.OpenShut
import Derived.ShutString
import Derived.ChangeOld
import Derived.Below
namespace Go.Proofs.Ytncnmgmkmjikcaa.namesReads
open Go.ChangeShapes Go.WideShapes Go.ChangeAt Go.RowKit
open Go.ChangeMaps (open_string shut_string)
set_option linter.unusedVariables false

theorem own : ownKnob Try.prog.godebug = none := by kernel_rfl
theorem laidOut : laidOutB Try.prog = true := by kernel_rfl

/-- The law's road, whatever the two calls tell (the same name, the same error). -/
theorem core (a : Option Addr) (len cap : Nat) (zs : List Int) (p er : Int) (s : ByteArray) (w : World) (hb : Bys w w.heap.size a len zs) (hl : (len : Int) ≤ 9223372036854775807)
    (HS : Hid (∀ W : World, Below w.heap.size w W → Calls Try.prog 10 #[.slice a len cap, .int .u64 p] W fun e W' => e = .returned (.tuple #[.string s, .int .i64 er]) ∧ W = W'))
    (HR : Hid (∀ W : World, Below w.heap.size w W → Calls Try.prog 11 #[.slice a len cap, .int .u64 p] W fun e W' => e = .returned (.tuple #[.string s, .int .i64 er]) ∧ W = W')) :
    Calls Try.prog 3 #[.slice a len cap, .int .u64 p] w fun e w' => e = .returned (.bool true) ∧ Below w.heap.size w w' := by
  have HB := Lib.hid hb
  clear hb
  go_enter Try.func3, Try.ntmps3
  go_wp2_with fail
  refine (awake_any _).mono ?_
  rintro e w1 ⟨rfl, hb1⟩
  have HBY := Lib.hid (HB.out.below hb1)
  go_wp2_with (first | (go_at_call 10; refine (HS.out _ hb1).mono ?_; rintro e w' ⟨rfl, rfl⟩) | (go_at_call 11; refine (HR.out _ hb1).mono ?_; rintro e w' ⟨rfl, rfl⟩) | (go_at_call 12; refine (check_any _ _ _ _ _ _ HBY.out hl).mono ?_; rintro e w' ⟨rfl, rfl⟩) | (go_at_call 13; refine (rcheck_any _ _ _ _ _ _ HBY.out hl).mono ?_; rintro e w' ⟨rfl, rfl⟩))
  go_ret
  exact ⟨rfl, hb1⟩
set_option maxRecDepth 100000 in
set_option maxHeartbeats 1600000 in
theorem walk (a0 : Option Addr) (len0 cap0 : Nat) (z0 : List Int) (a1 : Int) (w : World) (w0 : IsRow .u8 w a0 len0 cap0 z0) (w1 : (Lit.int .u64 a1).wf = true) :
    Calls Try.prog 3 #[.slice a0 len0 cap0, .int .u64 a1] w fun e w' => e = .returned (.bool true) ∧ Below w.heap.size w w' := by
  obtain ⟨hb, hcap, hcm⟩ := w0.bys
  obtain ⟨p0, p1⟩ := bd_u64 w1
  have hl : (len0 : Int) ≤ 9223372036854775807 := by omega
  by_cases hp : a1 < (len0 : Int)
  · obtain ⟨p, rfl⟩ := Int.eq_ofNat_of_zero_le p0
    have hp' : p < len0 := by omega
    rcases firstZ_or (piece (z0.take len0) p (len0 - p)) with hz | ⟨k, hz⟩
    · exact core a0 len0 cap0 _ _ 11 .empty w hb hl (Lib.hid fun W hW => at_form _ _ _ _ _ _ W (hb.below hW) hcap hcm hp' hz) (Lib.hid fun W hW => rat_form _ _ _ _ _ _ W (hb.below hW) hcap hcm hp' hz)
    · exact core a0 len0 cap0 _ _ 0 _ w hb hl (Lib.hid fun W hW => at_ok _ _ _ _ _ _ _ W (hb.below hW) hcap hcm hp' hz) (Lib.hid fun W hW => rat_ok _ _ _ _ _ _ _ W (hb.below hW) hcap hcm hp' hz)
  · exact core a0 len0 cap0 _ _ 10 .empty w hb hl (Lib.hid fun W hW => at_range _ _ _ _ W hl (by omega)) (Lib.hid fun W hW => rat_range _ _ _ _ W hl (by omega))

set_option maxRecDepth 100000 in
theorem lifted (os : Os) (started : os.Started) (H : Type) (enc : TypeId × Value → H) :
    ReturnsInHanded {} Try.checked os 3 .any (Rows.namesReadsSpec.pre6 enc Try.prog Try.f3 Rows.namesReadsRow.domain false) (Rows.namesReadsSpec.post enc Try.prog Try.f3 false true false false) := by
  refine returnsInHanded_of_change (C := Try.checked) own started (by kernel_rfl) Try.func3
    (ChangeSpec.witness6 (enc := enc) (C := Try.checked) false ⟨#[], #[.slice none 0 0, .int .u64 0], []⟩ 8 (by kernel_rfl) (by kernel_rfl) (by kernel_rfl) (by kernel_rfl)) ?_
  intro W base args ds gs before hval0 hW hcnd _
  have hval : ∀ (j : Nat) t v, Try.f3.params[j]? = some t → args[j]? = some v → Value.okWide Try.prog W .any base t v := hval0
  have hW' := hW
  obtain ⟨p, q, hA0, hV, rfl, hfz, hnd⟩ := hW
  have hA : DataW.TrodAll enc Try.prog W 0 (fun _ => true) true Try.f3.params.toList args.toList ds p := hA0
  rw [Try.params3] at hA hval
  obtain ⟨v0, vs0, d0, ds0, p0, q0, hargs, rfl, rfl, h0, r0⟩ := trodAll_cons hA
  obtain ⟨v1, vs1, d1, ds1, p1, q1, rfl, rfl, rfl, h1, r1⟩ := trodAll_cons r0
  obtain ⟨rfl, rfl, rfl⟩ := trodAll_nil r1
  obtain rfl : args = #[v0, v1] := by cases args; simp_all
  obtain ⟨rfl, rfl⟩ := trodVars_none hV
  obtain ⟨a0, len0, cap0, rfl⟩ := okWide_slice Try.underlying22 (hval 0 22 v0 rfl rfl)
  have k0 := h0
  have lt0 : ∀ x ∈ p0, x.block < W.heap.size := by obtain ⟨m, hm⟩ := k0; exact DataW.trod_lt m _ _ _ hm
  obtain ⟨z0, w0⟩ : ∃ zs, IsRow .u8 W a0 len0 cap0 zs := by
    obtain ⟨fuel, hf⟩ := h0
    rcases open_ints Try.underlying22 Try.underlying5 (by kernel_rfl) hf with ⟨hcs, _⟩ | ⟨x, l, c, zs, hcs, _, hl, hm, hz, _, hcell, hwz⟩
    · simp [Value.cells] at hcs
      obtain ⟨rfl, rfl, rfl⟩ := hcs
      exact ⟨[], .inl ⟨rfl, rfl, rfl, rfl⟩⟩
    · simp [Value.cells] at hcs
      obtain ⟨rfl, rfl, rfl⟩ := hcs
      exact ⟨zs, .inr ⟨_, rfl, hl, hm, by simpa using hz, hcell, hwz⟩⟩
  obtain ⟨a1, rfl, rfl, rfl, w1⟩ := open_int Try.underlying23 (hval 1 23 v1 rfl rfl) h1
  clear hA0 hval0
  refine (walk a0 len0 cap0 z0 a1 W w0 w1).mono fun e W' ⟨he, bel⟩ => ?_
  subst he
  exact ⟨_, rfl, _, _, _, [], _, [], hW', trodAll_mk1 (shut_bool Try.underlying4 _), (trodAll_cons_mk (Below.trod laidOut (by kernel_rfl) (of_decide_eq_true (by kernel_rfl)) k0 bel lt0) (trodAll_cons_mk (shut_int Try.underlying23 w1) trodAll_mk0)), rfl, bel.frame _, fun h => by cases h⟩

theorem over : Rows.namesReadsRow.holds Try.pinned (OpenSpec.ofChange Rows.namesReadsSpec) :=
  OpenClaim.holds_of_wide 3 Try.f3 rfl rfl rfl rfl rfl rfl rfl ⟨rfl, rfl, rfl, rfl, rfl⟩ rfl rfl rfl rfl rfl (by kernel_rfl) Try.func3 (by kernel_rfl)
    (of_decide_eq_true (by kernel_rfl)) (by unfold Func.isWrapper; first | (rw [if_pos (by decide +kernel)]; kernel_rfl) | (rw [if_neg (by decide +kernel)]; exact ⟨rfl, rfl⟩))
    (fun os started H enc _ => lifted os started H enc)

theorem proved : Rows.NamesReadsSaid := over
#print axioms proved
end Go.Proofs.Ytncnmgmkmjikcaa.namesReads
