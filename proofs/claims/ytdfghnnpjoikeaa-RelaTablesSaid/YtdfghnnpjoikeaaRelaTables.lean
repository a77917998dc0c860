/-
  What is proved here: RelaTables: any bytes are the relocations that the reference says, or refused with the same error.
  Conditions: none of our own; the law's row says what its input is.
-/
import Derived.Test.YtdfghnnpjoikeaaRows
import Derived.Test.YtdfghnnpjoikeaaRelAwake
import Derived.Test.YtdfghnnpjoikeaaRelFrame
import Derived.Test.YtdfghnnpjoikeaaApp
import Derived.WalkKit
import Derived.ProofKit
import Derived.OpenShut
import Derived.ShutString
import Derived.ChangeOld
import Derived.Below
namespace Go.Proofs.Ytdfghnnpjoikeaa.relaTables
open Go.ChangeShapes Go.WideShapes Go.ChangeAt Go.RowKit
open Go.ChangeMaps (open_string shut_string)
set_option linter.unusedVariables false

theorem own : ownKnob Try.prog.godebug = none := by kernel_rfl
theorem laidOut : laidOutB Try.prog = true := by kernel_rfl

set_option maxRecDepth 100000 in
set_option maxHeartbeats 1600000 in
theorem walk (a0 : Option Addr) (len0 cap0 : Nat) (z0 : List Int) (w : World) (w0 : IsRow .u8 w a0 len0 cap0 z0) :
    Calls Try.prog 4 #[.slice a0 len0 cap0] w fun e w' => e = .returned (.bool true) ∧ Below w.heap.size w w' := by
  obtain ⟨hs, hcap, hcm⟩ := w0.bys
  have HS := Lib.hid hs
  clear w0 hs
  go_enter Try.func4, Try.ntmps4
  go_wp2_with fail
  refine (awake_any _).mono ?_
  rintro r v1 ⟨rfl, hb1⟩
  have HB1 := Lib.hid hb1
  clear hb1
  by_cases h4k : 4000 < len0
  · have h4i : (4000 : Int) < len0 := by omega
    go_wp2
    go_ret
    exact ⟨rfl, HB1.out⟩
  · have h4i : (len0 : Int) ≤ 4000 := by omega
    have HT := Lib.hid (fun w1 (h1 : Below w.heap.size w w1) => ltable_any w.heap.size a0 len0 cap0 _ w1 (HS.out.below h1) h1.size (by omega) hcap hcm)
    have HRT := Lib.hid (fun w1 (h1 : Below w.heap.size w w1) => rtable7_any w.heap.size a0 len0 cap0 _ w1 (HS.out.below h1) h1.size (by omega))
    have HTO := Lib.hid (tabL_ok HS.out.2.1)
    have HTN : Hid ((tabL (z0.take len0)).2.length ≤ 4000) := Lib.hid (by
      have h5 := HS.out.1
      unfold tabL
      split
      · rw [tabR_len, h5]; omega
      · decide)
    generalize (tabL (z0.take len0)).1 = te at HT HRT
    generalize (tabL (z0.take len0)).2 = L at HT HRT HTO HTN
    obtain ⟨m, hm⟩ : ∃ m, L.length = m := ⟨_, rfl⟩
    rw [hm] at HT HRT HTN
    have hmi : (m : Int) ≤ 4000 := by have := HTN.out; omega
    clear HS
    go_wp2_with fail
    refine (HT.out _ HB1.out).mono ?_
    rintro r v2 ⟨⟨u, rfl, ho⟩, hb2⟩
    obtain ⟨la, lc, rfl, hlc1, hlc2⟩ := Rl.own_slice ho
    have HLA0 := Lib.hid (Rl.Sl.own HTO.out ho)
    have HB2 := Lib.hid (HB1.out.trans (hb2.mono HB1.out.size))
    clear ho hb2
    go_wp2_with fail
    refine (HRT.out _ HB2.out).mono ?_
    rintro r v3 ⟨⟨u, rfl, ho⟩, hb3⟩
    obtain ⟨ra, rc, rfl, hrc1, hrc2⟩ := Rl.own_slice ho
    have HRA := Lib.hid (Rl.Sl.own HTO.out ho)
    have HLA := Lib.hid ((HLA0.out.below hb3).more hb3.size)
    have HB3 := Lib.hid (HB2.out.trans (hb3.mono HB2.out.size))
    clear ho hb3 HLA0 HT HRT
    go_wp2
    go_loopw [8] (fun i wr => ∃ k : Nat, k ≤ m ∧ i = .int .i64 k ∧ Below v3.heap.size v3 wr) (fun i _ => m - (intOf i).toNat)
    case atStart => exact ⟨0, Nat.zero_le _, rfl, Below.refl _ _⟩
    case round =>
      obtain ⟨k, hk, rfl, hbel⟩ := hrel
      by_cases hlt : k < m
      · obtain ⟨b, off, rfl, hbB, hcell⟩ := HLA.out.hc (by omega)
        obtain ⟨b', off', rfl, hbB', hcell'⟩ := HRA.out.hc (by omega)
        have hs1 := (hcell k hlt).below (hbel) hbB
        have hs2 := (hcell' k hlt).below (hbel) hbB'
        have HBE := Lib.hid hbel
        have hlti : (k : Int) < m := by omega
        generalize L.getD k Rl.zero = s at hs1 hs2
        clear hcell hcell' hbel
        obtain ⟨x0, x1, x2, x3⟩ := hs1
        obtain ⟨u0, u1, u2, u3⟩ := hs2
        obtain ⟨of, ty, sy, ad⟩ := s
        simp only at x0 x1 x2 x3 u0 u1 u2 u3
        go_wp2
        go_quiet (fail)
        go_wp2
        go_roundw
        case rel => exact ⟨k + 1, by omega, by go_num, below_drewN HBE.out _⟩
        case measure => (simp [intOf] <;> omega)
      · obtain rfl : k = m := by omega
        have HBE := Lib.hid (HB3.out.trans (hbel.mono HB3.out.size))
        clear hbel
        go_wp2
        go_ret
        exact ⟨rfl, HBE.out⟩

set_option maxRecDepth 100000 in
theorem lifted (os : Os) (started : os.Started) (H : Type) (enc : TypeId × Value → H) :
    ReturnsInHanded {} Try.checked os 4 .any (Rows.relaTablesSpec.pre6 enc Try.prog Try.f4 Rows.relaTablesRow.domain false) (Rows.relaTablesSpec.post enc Try.prog Try.f4 false true false false) := by
  refine returnsInHanded_of_change (C := Try.checked) own started (by kernel_rfl) Try.func4
    (ChangeSpec.witness6 (enc := enc) (C := Try.checked) false ⟨#[], #[.slice none 0 0], []⟩ 8 (by kernel_rfl) (by kernel_rfl) (by kernel_rfl) (by kernel_rfl)) ?_
  intro W base args ds gs before hval0 hW hcnd _
  have hval : ∀ (j : Nat) t v, Try.f4.params[j]? = some t → args[j]? = some v → Value.okWide Try.prog W .any base t v := hval0
  have hW' := hW
  obtain ⟨p, q, hA0, hV, rfl, hfz, hnd⟩ := hW
  have hA : DataW.TrodAll enc Try.prog W 0 (fun _ => true) true Try.f4.params.toList args.toList ds p := hA0
  rw [Try.params4] at hA hval
  obtain ⟨v0, vs0, d0, ds0, p0, q0, hargs, rfl, rfl, h0, r0⟩ := trodAll_cons hA
  obtain ⟨rfl, rfl, rfl⟩ := trodAll_nil r0
  obtain rfl : args = #[v0] := by cases args; simp_all
  obtain ⟨rfl, rfl⟩ := trodVars_none hV
  obtain ⟨a0, len0, cap0, rfl⟩ := okWide_slice Try.underlying27 (hval 0 27 v0 rfl rfl)
  have k0 := h0
  have lt0 : ∀ x ∈ p0, x.block < W.heap.size := by obtain ⟨m, hm⟩ := k0; exact DataW.trod_lt m _ _ _ hm
  obtain ⟨z0, w0⟩ : ∃ zs, IsRow .u8 W a0 len0 cap0 zs := by
    obtain ⟨fuel, hf⟩ := h0
    rcases open_ints Try.underlying27 Try.underlying5 (by kernel_rfl) hf with ⟨hcs, _⟩ | ⟨x, l, c, zs, hcs, _, hl, hm, hz, _, hcell, hwz⟩
    · simp [Value.cells] at hcs
      obtain ⟨rfl, rfl, rfl⟩ := hcs
      exact ⟨[], .inl ⟨rfl, rfl, rfl, rfl⟩⟩
    · simp [Value.cells] at hcs
      obtain ⟨rfl, rfl, rfl⟩ := hcs
      exact ⟨zs, .inr ⟨_, rfl, hl, hm, by simpa using hz, hcell, hwz⟩⟩
  clear hA0 hval0
  refine (walk a0 len0 cap0 z0 W w0).mono fun e W' ⟨he, bel⟩ => ?_
  subst he
  exact ⟨_, rfl, _, _, _, [], _, [], hW', trodAll_mk1 (shut_bool Try.underlying4 _), (trodAll_cons_mk (Below.trod laidOut (by kernel_rfl) (of_decide_eq_true (by kernel_rfl)) k0 bel lt0) trodAll_mk0), rfl, bel.frame _, fun h => by cases h⟩

theorem over : Rows.relaTablesRow.holds Try.pinned (OpenSpec.ofChange Rows.relaTablesSpec) :=
  OpenClaim.holds_of_wide 4 Try.f4 rfl rfl rfl rfl rfl rfl rfl ⟨rfl, rfl, rfl, rfl, rfl⟩ rfl rfl rfl rfl rfl (by kernel_rfl) Try.func4 (by kernel_rfl)
    (of_decide_eq_true (by kernel_rfl)) (by unfold Func.isWrapper; first | (rw [if_pos (by decide +kernel)]; kernel_rfl) | (rw [if_neg (by decide +kernel)]; exact ⟨rfl, rfl⟩))
    (fun os started H enc _ => lifted os started H enc)

theorem proved : Rows.RelaTablesSaid := over
#print axioms proved
end Go.Proofs.Ytdfghnnpjoikeaa.relaTables
