/-
  What is proved here: the law OctetsEnds: for every input it returns true and leaves its arguments as they were.
  Conditions: none of our own; the law's row says what its input is.
-/
import Derived.Test.YtjcjngmcjlffaaaRows
import Derived.Test.YtjcjngmcjlffaaaOctMask
import Derived.WalkKit
import Derived.ProofKit
import Derived.OpenShut
import Derived.ShutString
import Derived.Below
namespace Go.Proofs.Ytjcjngmcjlffaaa.octetsEnds
open Go.ChangeShapes Go.WideShapes Go.ChangeAt Go.RowKit
open Go.ChangeMaps (open_string shut_string)
set_option linter.unusedVariables false      -- a walk need not use every 'w<i>' (that an integer argument fits its kind)

theorem own : ownKnob Try.prog.godebug = none := by kernel_rfl

set_option maxHeartbeats 1600000 in
/-- The law's road at the width k, over a row of k + m bytes. -/
theorem core (a0 a1 : Int) (j k m N : Nat) (w : World) (hj : bits .and .i64 a1 3 = (j : Int)) (hm : bits .and .i64 a0 255 = (m : Int)) (hm1 : m ≤ 255) (hk : Hid (WidAt j k)) (hj4 : j < 4) (hk1 : 1 ≤ k) (hk8 : k ≤ 8) (hN : Hid (N = k + m)) (hN1 : k ≤ N) (hN2 : N ≤ 263) :
    Calls Try.prog 10 #[.int .i64 a0, .int .i64 a1] w fun e w' => e = .returned (.bool true) ∧ Below w.heap.size w w' := by
  obtain ⟨i0, hi, hz0, hz1, hz2⟩ := info_parts info_u8
  have HI := Lib.hid hi
  have HZ0 := Lib.hid hz0
  have HZ1 := Lib.hid hz1
  have HZ2 := Lib.hid hz2
  have hNk : (N : Int) - (k : Int) = (m : Int) := by have := hN.out; omega
  clear hi hz0 hz1 hz2
  go_enter Try.func10, Try.ntmps10
  go_wp2_with fail
  refine (awake_any _).mono ?_
  rintro e w1 ⟨rfl, hb1⟩
  have hc := hk.out.cell w1 3
  go_wp2_with (at_make; refine wpList_make_full _ rfl _ _ 22 rfl (w1.heap.size + 1) 5 i0 (.int .u8 0) 1 Try.underlying22 HI.out HZ0.out HZ1.out .i64 .i64 _ _ N rfl rfl ?c0 ?c9 ?c1 ?c2 ?c3 ?_)
  case c0 => have := hN.out; omega
  case c9 => have := hN.out; omega
  case c1 => rw [HZ2.out]; omega
  case c2 => unfold maxLen; omega
  case c3 => simp
  intro w2 hown hg
  have hbw2 : Below w.heap.size w w2 := ((hb1.alloc hb1.size _).grown hg (by have := hb1.size; simp; omega) (fun _ e => by cases e))
  rw [toList_madeCells_one, show List.replicate N (Value.int .u8 0) = (List.replicate N (0 : Int)).map (Value.int .u8) from by rw [List.map_replicate]] at hown
  have HBY := Lib.hid (Bys.own (zs := List.replicate N (0 : Int)) (fun y hy => by rw [List.eq_of_mem_replicate hy]; decide) hown)
  have hNi : (N : Int) ≤ 263 := by omega
  have hmN : m + k ≤ N := by have := hN.out; omega
  clear hown hg hc
  go_wp2_with fail
  refine (get_ok _ _ _ _ _ m k _ HBY.out hk.out.is (by omega) hmN).mono ?_
  rintro e w' ⟨rfl, rfl⟩
  go_wp2_with fail
  refine (get_range _ _ _ _ _ _ (by have := hk.out.is; omega) (by omega) (by omega) (by omega) (by have := hN.out; omega)).mono ?_
  rintro e w' ⟨rfl, rfl⟩
  go_wp2_with fail
  refine (cut_end _ _ _ _ _ _ HBY.out (Nat.le_refl _) (Nat.le_refl _) (by omega) (by omega)).mono ?_
  rintro e w3 ⟨rfl, hb3⟩
  have hbw3 := hbw2.trans (hb3.mono hbw2.size)
  go_wp2_with fail
  refine (cut_range _ _ _ _ _ _ (by omega) (by omega) (by omega) (by omega) (by omega) (by omega)).mono ?_
  rintro e w' ⟨rfl, rfl⟩
  go_wp2_with fail
  refine (cut_range _ _ _ _ _ _ (by omega) (by omega) (by omega) (by omega) (by omega) (by omega)).mono ?_
  rintro e w' ⟨rfl, rfl⟩
  go_wp2_with fail
  refine (cut_range _ _ _ _ _ _ (by omega) (by omega) (by omega) (by omega) (by omega) (by omega)).mono ?_
  rintro e w' ⟨rfl, rfl⟩
  go_wp2_with fail
  go_ret
  exact ⟨rfl, hbw3⟩
set_option maxHeartbeats 800000 in
theorem walk (a0 : Int) (a1 : Int) (w0 : (Lit.int .i64 a0).wf = true) (w1 : (Lit.int .i64 a1).wf = true) (w : World) :
    Calls Try.prog 10 #[.int .i64 a0, .int .i64 a1] w fun e w' => e = .returned (.bool true) ∧ Below w.heap.size w w' := by
  obtain ⟨j, hj3, hj⟩ := i64_mask a1 3 (by decide)
  obtain ⟨m, hm2, hm⟩ := i64_mask a0 255 (by decide)
  obtain ⟨k, hk⟩ := widAt_of hj3
  obtain ⟨k1, k2, k3⟩ := hk.lt
  exact core a0 a1 j k m (k + m) w hj hm hm2 (Lib.hid hk) k1 k2 k3 (Lib.hid rfl) (by omega) (by omega)

set_option maxRecDepth 100000 in
theorem lifted (os : Os) (started : os.Started) (H : Type) (enc : TypeId × Value → H) :
    ReturnsInHanded {} Try.checked os 10 .any (Rows.octetsEndsSpec.pre6 enc Try.prog Try.f10 Rows.octetsEndsRow.domain false) (Rows.octetsEndsSpec.post enc Try.prog Try.f10 false true false false) := by
  refine returnsInHanded_of_change (C := Try.checked) own started (by kernel_rfl) Try.func10
    (ChangeSpec.witness6 (enc := enc) (C := Try.checked) false ⟨#[], #[.int .i64 0, .int .i64 0], []⟩ 8 (by kernel_rfl) (by kernel_rfl) (by kernel_rfl) (by kernel_rfl)) ?_
  intro W base args ds gs before hval0 hW hcnd _
  have hval : ∀ (j : Nat) t v, Try.f10.params[j]? = some t → args[j]? = some v → Value.okWide Try.prog W .any base t v := hval0
  have hW' := hW
  obtain ⟨p, q, hA0, hV, rfl, hfz, hnd⟩ := hW
  have hA : DataW.TrodAll enc Try.prog W 0 (fun _ => true) true Try.f10.params.toList args.toList ds p := hA0
  rw [Try.params10] at hA hval
  obtain ⟨v0, vs0, d0, ds0, p0, q0, hargs, rfl, rfl, h0, r0⟩ := trodAll_cons hA
  obtain ⟨v1, vs1, d1, ds1, p1, q1, rfl, rfl, rfl, h1, r1⟩ := trodAll_cons r0
  obtain ⟨rfl, rfl, rfl⟩ := trodAll_nil r1
  obtain rfl : args = #[v0, v1] := by cases args; simp_all
  obtain ⟨rfl, rfl⟩ := trodVars_none hV
  obtain ⟨a0, rfl, rfl, rfl, w0⟩ := open_int Try.underlying3 (hval 0 3 v0 rfl rfl) h0
  obtain ⟨a1, rfl, rfl, rfl, w1⟩ := open_int Try.underlying3 (hval 1 3 v1 rfl rfl) h1
  clear hA0 hval0
  simp only [List.append_nil] at hW'
  refine (walk a0 a1 w0 w1 W).mono fun e W' ⟨he, bel⟩ => ?_
  subst he
  exact ⟨_, rfl, _, _, _, [], _, [], hW', trodAll_mk1 (shut_bool Try.underlying4 _), (trodAll_cons_mk (shut_int Try.underlying3 w0) (trodAll_cons_mk (shut_int Try.underlying3 w1) trodAll_mk0)), rfl, bel.frame _, fun h => by cases h⟩

theorem over : Rows.octetsEndsRow.holds Try.pinned (OpenSpec.ofChange Rows.octetsEndsSpec) :=
  OpenClaim.holds_of_wide 10 Try.f10 rfl rfl rfl rfl rfl rfl rfl ⟨rfl, rfl, rfl, rfl, rfl⟩ rfl rfl rfl rfl rfl (by kernel_rfl) Try.func10 (by kernel_rfl)
    (of_decide_eq_true (by kernel_rfl)) (by unfold Func.isWrapper; first | (rw [if_pos (by decide +kernel)]; kernel_rfl) | (rw [if_neg (by decide +kernel)]; exact ⟨rfl, rfl⟩))
    (fun os started H enc _ => lifted os started H enc)

theorem proved : Rows.OctetsEndsSaid :=
  over
#print axioms proved
end Go.Proofs.Ytjcjngmcjlffaaa.octetsEnds
