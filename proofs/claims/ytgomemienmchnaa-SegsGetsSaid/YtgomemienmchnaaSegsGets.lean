/-
  What is proved here: SegsGets: any bytes are the segments that the reference says, from any place on, or refused with the same error.
  Conditions: none of our own; the law's row says what its input is.
-/
import Derived.Test.YtgomemienmchnaaRows
import Derived.Test.YtgomemienmchnaaSegAwake
import Derived.Test.YtgomemienmchnaaSegFrame
import Derived.Test.YtgomemienmchnaaSegTabs
import Derived.WalkKit
import Derived.ProofKit
import Derived.OpenShut
import Derived.ShutString
import Derived.ChangeOld
import Derived.Below
namespace Go.Proofs.Ytgomemienmchnaa.segsGets
open Go.ChangeShapes Go.WideShapes Go.ChangeAt Go.RowKit
open Go.ChangeMaps (open_string shut_string)
set_option linter.unusedVariables false

theorem own : ownKnob Try.prog.godebug = none := by kernel_rfl
theorem laidOut : laidOutB Try.prog = true := by kernel_rfl

set_option maxRecDepth 100000 in
set_option maxHeartbeats 1600000 in
theorem walk (a0 : Option Addr) (len0 cap0 : Nat) (z0 : List Int) (a1 : Int) (a2 : Int) (w : World) (w0 : IsRow .u8 w a0 len0 cap0 z0) (w1 : (Lit.int .u64 a1).wf = true) (w2 : (Lit.int .i64 a2).wf = true) :
    Calls Try.prog 4 #[.slice a0 len0 cap0, .int .u64 a1, .int .i64 a2] w fun e w' => e = .returned (.bool true) ∧ Below w.heap.size w w' := by
  obtain ⟨s0, s1⟩ := bd_u64 w1
  obtain ⟨hs, hcap, hcm⟩ := w0.bys
  have HS := Lib.hid hs
  clear w0 w1 w2 hs
  go_enter Try.func4, Try.ntmps4
  go_wp2_with fail
  refine (awake_any _).mono ?_
  rintro r v1 ⟨rfl, hb1⟩
  have HB1 := Lib.hid hb1
  clear hb1
  by_cases h4k : 4000 < len0
  · have h64i : (4000 : Int) < len0 := by omega
    go_wp2
    go_ret
    exact ⟨rfl, HB1.out⟩
  · have h64i : (len0 : Int) ≤ 4000 := by omega
    have HG : Hid (∀ w1, Below w.heap.size w w1 → Calls Try.prog 13 #[.slice a0 len0 cap0] w1 fun r w' => r = .returned (getV (z0.take len0)) ∧ Below w1.heap.size w1 w') := Lib.hid (fun w1 h1 =>
      sget_any w.heap.size a0 len0 cap0 _ w1 (HS.out.below h1) h1.size hcap hcm)
    have HRG : Hid (∀ w1, Below w.heap.size w w1 → Calls Try.prog 15 #[.slice a0 len0 cap0] w1 fun r w' => r = .returned (getV (z0.take len0)) ∧ Below w1.heap.size w1 w') := Lib.hid (fun w1 h1 =>
      rget4_any w.heap.size a0 len0 cap0 _ w1 (HS.out.below h1) h1.size hcap hcm)
    have HT := Lib.hid (fun w1 (h1 : Below w.heap.size w w1) => stable_any w.heap.size a0 len0 cap0 _ a1 a2 w1 (HS.out.below h1) h1.size hcap hcm (by omega) s0 s1)
    have HRT := Lib.hid (fun w1 (h1 : Below w.heap.size w w1) => rtable_any w.heap.size a0 len0 cap0 _ a1 a2 w1 (HS.out.below h1) h1.size (by omega) s0 s1)
    have HTO := Lib.hid (tabR_ok (p := a1) (n := a2) HS.out.2.1 s0)
    obtain ⟨s, e, hge⟩ := getV_form (zs := z0.take len0)
    rw [hge] at HG HRG
    generalize (tabR (z0.take len0) a1 a2).1 = te at HT HRT
    generalize (tabR (z0.take len0) a1 a2).2 = L at HT HRT HTO
    obtain ⟨m, hm⟩ : ∃ m, L.length = m := ⟨_, rfl⟩
    rw [hm] at HT HRT HTO
    have hm64 : m ≤ 64 := HTO.out.2
    have hm64i : (m : Int) ≤ 64 := by omega
    clear hge HS
    obtain ⟨ty, fl, ot, va, fi, me, al⟩ := s
    unfold Sg.val at HG HRG
    simp only at HG HRG
    go_wp2_with fail
    refine (HG.out _ HB1.out).mono ?_
    rintro r v2 ⟨rfl, hb2⟩
    have HB2 : Hid (Below w.heap.size w (v2.alloc (.cells #[.int .u32 ty, .int .u32 fl, .int .u64 ot, .int .u64 va, .int .u64 fi, .int .u64 me, .int .u64 al] 25))) := Lib.hid (by
      have h := HB1.out.trans (hb2.mono HB1.out.size)
      exact h.alloc h.size _)
    have HK2 : Hid (∀ w', Below (v2.alloc (.cells #[.int .u32 ty, .int .u32 fl, .int .u64 ot, .int .u64 va, .int .u64 fi, .int .u64 me, .int .u64 al] 25)).heap.size (v2.alloc (.cells #[.int .u32 ty, .int .u32 fl, .int .u64 ot, .int .u64 va, .int .u64 fi, .int .u64 me, .int .u64 al] 25)) w' → Blk w' v2.heap.size #[.int .u32 ty, .int .u32 fl, .int .u64 ot, .int .u64 va, .int .u64 fi, .int .u64 me, .int .u64 al] 25) := Lib.hid (fun w' h => (Blk.new v2 _ _).later h)
    clear hb2
    go_wp2_with fail
    refine (HRG.out _ HB2.out).mono ?_
    rintro r v3 ⟨rfl, hb3⟩
    obtain ⟨q0, q1, q2, q3, q4, q5, q6⟩ := ((HK2.out _ hb3).alloc (.cells #[.int .u32 ty, .int .u32 fl, .int .u64 ot, .int .u64 va, .int .u64 fi, .int .u64 me, .int .u64 al] 25)).c7
    have HB3 : Hid (Below w.heap.size w (v3.alloc (.cells #[.int .u32 ty, .int .u32 fl, .int .u64 ot, .int .u64 va, .int .u64 fi, .int .u64 me, .int .u64 al] 25))) := Lib.hid (by
      have h := HB2.out.trans (hb3.mono HB2.out.size)
      exact h.alloc h.size _)
    clear hb3
    go_wp2_with fail
    refine (HT.out _ HB3.out).mono ?_
    rintro r v4 ⟨⟨u, rfl, ho⟩, hb4⟩
    obtain ⟨la, lc, rfl, -, -⟩ := own7_slice ho
    have HLA := Lib.hid (Sgs.own HTO.out.1 ho)
    have HB4 := Lib.hid (HB3.out.trans (hb4.mono HB3.out.size))
    clear ho hb4 q0 q1 q2 q3 q4 q5 q6
    go_wp2_with fail
    refine (HRT.out _ HB4.out).mono ?_
    rintro r v5 ⟨⟨u, rfl, ho⟩, hb5⟩
    obtain ⟨ra, rc, rfl, -, -⟩ := own7_slice ho
    have HRA := Lib.hid (Sgs.own HTO.out.1 ho)
    have HLB := Lib.hid ((HLA.out.below hb5).more hb5.size)
    have HB5 := Lib.hid (HB4.out.trans (hb5.mono HB4.out.size))
    clear ho hb5
    go_wp2
    go_loopw [16] (fun i wr => ∃ k : Nat, k ≤ m ∧ i = .int .i64 k ∧ Below v5.heap.size v5 wr) (fun i _ => m - (intOf i).toNat)
    case atStart => exact ⟨0, Nat.zero_le _, rfl, Below.refl _ _⟩
    case round =>
      obtain ⟨k, hk, rfl, hbel⟩ := hrel
      by_cases hlt : k < m
      · obtain ⟨b, off, rfl, hbB, hcell⟩ := HLB.out.hc (by omega)
        obtain ⟨b', off', rfl, hbB', hcell'⟩ := HRA.out.hc (by omega)
        have hs1 := (hcell k hlt).below hbel hbB
        have hs2 := (hcell' k hlt).below hbel hbB'
        have HBE := Lib.hid hbel
        have hlti : (k : Int) < m := by omega
        generalize L.getD k sg0 = s at hs1 hs2
        clear hcell hcell' hbel
        obtain ⟨x0, x1, x2, x3, x4, x5, x6⟩ := hs1
        obtain ⟨u0, u1, u2, u3, u4, u5, u6⟩ := hs2
        obtain ⟨ty, fl, ot, va, fi, me, al⟩ := s
        simp only at x0 x1 x2 x3 x4 x5 x6 u0 u1 u2 u3 u4 u5 u6
        go_wp2
        go_quiet (fail)
        go_wp2
        go_roundw
        case rel => exact ⟨k + 1, by omega, by go_num, below_drewN HBE.out _⟩
        case measure => (simp [intOf] <;> omega)
      · obtain rfl : k = m := by omega
        have HBE := Lib.hid (HB5.out.trans (hbel.mono HB5.out.size))
        clear hbel
        go_wp2
        go_ret
        exact ⟨rfl, HBE.out⟩

set_option maxRecDepth 100000 in
theorem lifted (os : Os) (started : os.Started) (H : Type) (enc : TypeId × Value → H) :
    ReturnsInHanded {} Try.checked os 4 .any (Rows.segsGetsSpec.pre6 enc Try.prog Try.f4 Rows.segsGetsRow.domain false) (Rows.segsGetsSpec.post enc Try.prog Try.f4 false true false false) := by
  refine returnsInHanded_of_change (C := Try.checked) own started (by kernel_rfl) Try.func4
    (ChangeSpec.witness6 (enc := enc) (C := Try.checked) false ⟨#[], #[.slice none 0 0, .int .u64 0, .int .i64 0], []⟩ 8 (by kernel_rfl) (by kernel_rfl) (by kernel_rfl) (by kernel_rfl)) ?_
  intro W base args ds gs before hval0 hW hcnd _
  have hval : ∀ (j : Nat) t v, Try.f4.params[j]? = some t → args[j]? = some v → Value.okWide Try.prog W .any base t v := hval0
  have hW' := hW
  obtain ⟨p, q, hA0, hV, rfl, hfz, hnd⟩ := hW
  have hA : DataW.TrodAll enc Try.prog W 0 (fun _ => true) true Try.f4.params.toList args.toList ds p := hA0
  rw [Try.params4] at hA hval
  obtain ⟨v0, vs0, d0, ds0, p0, q0, hargs, rfl, rfl, h0, r0⟩ := trodAll_cons hA
  obtain ⟨v1, vs1, d1, ds1, p1, q1, rfl, rfl, rfl, h1, r1⟩ := trodAll_cons r0
  obtain ⟨v2, vs2, d2, ds2, p2, q2, rfl, rfl, rfl, h2, r2⟩ := trodAll_cons r1
  obtain ⟨rfl, rfl, rfl⟩ := trodAll_nil r2
  obtain rfl : args = #[v0, v1, v2] := by cases args; simp_all
  obtain ⟨rfl, rfl⟩ := trodVars_none hV
  obtain ⟨a0, len0, cap0, rfl⟩ := okWide_slice Try.underlying27 (hval 0 27 v0 rfl rfl)
  have k0 := h0
  have lt0 : ∀ x ∈ p0, x.block < W.heap.size := by obtain ⟨m, hm⟩ := k0; exact DataW.trod_lt m _ _ _ hm
  obtain ⟨z0, w0⟩ : ∃ zs, IsRow .u8 W a0 len0 cap0 zs := by
    obtain ⟨fuel, hf⟩ := h0
    rcases open_ints Try.underlying27 Try.underlying5 (by kernel_rfl) hf with ⟨hcs, _⟩ | ⟨x, l, c, zs, hcs, _, hl, hm, hz, _, hcell, hwz⟩
    · simp [Value.cells] at hcs
      obtain ⟨rfl, rfl, rfl⟩ := hcs
      exact ⟨[], .inl ⟨rfl, rfl, rfl, rfl⟩⟩
    · simp [Value.cells] at hcs
      obtain ⟨rfl, rfl, rfl⟩ := hcs
      exact ⟨zs, .inr ⟨_, rfl, hl, hm, by simpa using hz, hcell, hwz⟩⟩
  obtain ⟨a1, rfl, rfl, rfl, w1⟩ := open_int Try.underlying23 (hval 1 23 v1 rfl rfl) h1
  obtain ⟨a2, rfl, rfl, rfl, w2⟩ := open_int Try.underlying3 (hval 2 3 v2 rfl rfl) h2
  clear hA0 hval0
  refine (walk a0 len0 cap0 z0 a1 a2 W w0 w1 w2).mono fun e W' ⟨he, bel⟩ => ?_
  subst he
  exact ⟨_, rfl, _, _, _, [], _, [], hW', trodAll_mk1 (shut_bool Try.underlying4 _), (trodAll_cons_mk (Below.trod laidOut (by kernel_rfl) (of_decide_eq_true (by kernel_rfl)) k0 bel lt0) (trodAll_cons_mk (shut_int Try.underlying23 w1) (trodAll_cons_mk (shut_int Try.underlying3 w2) trodAll_mk0))), rfl, bel.frame _, fun h => by cases h⟩

theorem over : Rows.segsGetsRow.holds Try.pinned (OpenSpec.ofChange Rows.segsGetsSpec) :=
  OpenClaim.holds_of_wide 4 Try.f4 rfl rfl rfl rfl rfl rfl rfl ⟨rfl, rfl, rfl, rfl, rfl⟩ rfl rfl rfl rfl rfl (by kernel_rfl) Try.func4 (by kernel_rfl)
    (of_decide_eq_true (by kernel_rfl)) (by unfold Func.isWrapper; first | (rw [if_pos (by decide +kernel)]; kernel_rfl) | (rw [if_neg (by decide +kernel)]; exact ⟨rfl, rfl⟩))
    (fun os started H enc _ => lifted os started H enc)

theorem proved : Rows.SegsGetsSaid := over
#print axioms proved
end Go.Proofs.Ytgomemienmchnaa.segsGets
