/-
  What is proved here: SegsSpans: of segments that may be, the pages of what is loaded are the reference's; no two of them have one in common; what has a place in the file is within it.
  Conditions: none of our own; the law's row says what its input is.
-/
import Derived.Test.YtgomemienmchnaaRows
import Derived.Test.YtgomemienmchnaaSegAwake
import Derived.Test.YtgomemienmchnaaSegFrame
import Derived.Test.YtgomemienmchnaaSegFind
import Derived.Test.YtgomemienmchnaaSegSpan
import Derived.WalkKit
import Derived.ProofKit
import Derived.OpenShut
import Derived.ShutString
import Derived.ChangeOld
import Derived.Below
namespace Go.Proofs.Ytgomemienmchnaa.segsSpans
open Go.ChangeShapes Go.WideShapes Go.ChangeAt Go.RowKit
open Go.ChangeMaps (open_string shut_string)
set_option linter.unusedVariables false

theorem own : ownKnob Try.prog.godebug = none := by kernel_rfl
theorem laidOut : laidOutB Try.prog = true := by kernel_rfl

theorem place_fits {L : List Sg} {size addr n : Int} (hf : Fits L size) (hok : ∀ s ∈ L, s.Ok) (s1 : size ≤ 18446744073709551615) (a0 : 0 ≤ addr) : ∃ p e, placeV L addr n = .tuple #[.int .u64 p, .int .i64 e] ∧ (e = 40 ∨ (e = 0 ∧ 0 ≤ p ∧ p ≤ size ∧ n ≤ size - p)) := by
  unfold placeV
  split
  · exact ⟨_, _, rfl, .inl rfl⟩
  · cases hq : L.find? (placeB addr n) with
    | none => exact ⟨_, _, rfl, .inl rfl⟩
    | some s =>
      refine ⟨_, _, rfl, .inr ⟨rfl, ?_⟩⟩
      have hp := List.find?_some hq
      have hm := List.mem_of_find?_eq_some hq
      obtain ⟨i, hi, hs⟩ := List.getElem_of_mem hm
      have h1 := hf.one i hi
      have hok' := hok s hm
      rw [List.getD_eq_getElem?_getD, List.getElem?_eq_getElem hi] at h1
      simp only [Option.getD_some, hs] at h1
      simp only [placeB, contB, Bool.and_eq_true, beq_iff_eq, decide_eq_true_eq] at hp
      obtain ⟨p1, p2, p3, p4⟩ := hp
      have h2 := h1.ot (by omega)
      have h3 := hok'.ot
      unfold placedS
      rw [IntKind.wrap_u64]
      have h4 := hok'.va
      have e1 : (s.ot + (addr - s.va)) % 18446744073709551616 = s.ot + (addr - s.va) := by omega
      omega
theorem apart_va {L : List Sg} {size : Int} (hf : Fits L size) (hok : ∀ s ∈ L, s.Ok) {k i : Nat} (hki : k < i) (hi : i < L.length) (h1 : (L.getD i sg0).ty = 1) (h2 : (L.getD k sg0).ty = 1) : (L.getD k sg0).va + (L.getD k sg0).me ≤ (L.getD i sg0).va ∧ (L.getD k sg0).va + (L.getD k sg0).me ≤ 4294967296 := by
  have a1 := apart hf hok h2 hki (by omega)
  have a2 := hf.up i hi h1
  have a3 := first_behind (hok _ (getD_mem (L := L) (k := k) (by omega)))
  have a4 := first_behind (hok _ (getD_mem (L := L) (k := i) hi))
  have a5 := (hf.one k (by omega)).va (by omega)
  omega
set_option maxRecDepth 100000 in
set_option maxHeartbeats 1600000 in
theorem walk (a0 : Option Addr) (len0 cap0 : Nat) (z0 : List Sg) (a1 : Int) (a2 : Int) (a3 : Int) (w : World) (w0 : IsSgs w a0 len0 cap0 z0) (w1 : (Lit.int .u64 a1).wf = true) (w2 : (Lit.int .u64 a2).wf = true) (w3 : (Lit.int .u64 a3).wf = true) :
    Calls Try.prog 8 #[.slice a0 len0 cap0, .int .u64 a1, .int .u64 a2, .int .u64 a3] w fun e w' => e = .returned (.bool true) ∧ Below w.heap.size w w' := by
  obtain ⟨s0, s1⟩ := bd_u64 w1
  obtain ⟨t0, t1⟩ := bd_u64 w2
  obtain ⟨n0, n1⟩ := bd_u64 w3
  obtain ⟨hs, hcap, hcm⟩ := w0.sgs
  have HS := Lib.hid hs
  clear w0 w1 w2 w3 hs
  have hl : (len0 : Int) ≤ 9223372036854775807 := by omega
  go_enter Try.func8, Try.ntmps8
  go_wp2_with fail
  refine (awake_any _).mono ?_
  rintro r v1 ⟨rfl, hb1⟩
  have HB1 := Lib.hid hb1
  clear hb1
  by_cases h64 : 64 < len0
  · have h64i : (64 : Int) < len0 := by omega
    go_wp2
    go_ret
    exact ⟨rfl, HB1.out⟩
  · have h64i : (len0 : Int) ≤ 64 := by omega
    obtain ⟨e, he⟩ : ∃ e, checkS (z0.take len0) a1 = e := ⟨_, rfl⟩
    have HC := Lib.hid (check1_any w.heap.size a0 len0 cap0 (z0.take len0) a1 v1 (HS.out.below HB1.out) HB1.out.size hcap hcm s0 s1)
    rw [he] at HC
    by_cases he0 : e = 0
    · subst he0
      have hf := fits he
      have hlast := last_step hf HS.out.hok (k := (z0.take len0).length) (Nat.le_refl _)
      rw [List.take_length] at hlast
      have HSP : Hid (∀ w1, Below w.heap.size w w1 → Calls Try.prog 24 #[.slice a0 len0 cap0] w1 fun r w' => r = .returned (.tuple #[.int .u64 (lowS (z0.take len0)), .int .u64 (lastEnd (z0.take len0))]) ∧ Below w1.heap.size w1 w') := Lib.hid (fun w1 h1 =>
        span_ok w.heap.size a0 len0 cap0 (z0.take len0) a1 w1 (HS.out.below h1) h1.size hl hf)
      have HRS : Hid (∀ w1, Below w.heap.size w w1 → Calls Try.prog 25 #[.slice a0 len0 cap0] w1 fun r w' => r = .returned (.tuple #[.int .u64 (lowS (z0.take len0)), .int .u64 (lastEnd (z0.take len0))]) ∧ Below w1.heap.size w1 w') := Lib.hid (fun w1 h1 =>
        rspan_ok w.heap.size a0 len0 cap0 (z0.take len0) a1 w1 (HS.out.below h1) h1.size hl hf)
      have HPL : Hid (∀ w1, Below w.heap.size w w1 → Calls Try.prog 20 #[.slice a0 len0 cap0, .int .u64 a2, .int .u64 a3] w1 fun r w' => r = .returned (placeV (z0.take len0) a2 a3) ∧ Below w1.heap.size w1 w') := Lib.hid (fun w1 h1 =>
        splace_any w.heap.size a0 len0 cap0 (z0.take len0) a2 a3 w1 (HS.out.below h1) h1.size hl t0 t1 n0 n1)
      have hpf := place_fits (addr := a2) (n := a3) hf HS.out.hok s1 t0
      have HAP : Hid (∀ k i, k < i → i < len0 → ((z0.take len0).getD i sg0).ty = 1 → ((z0.take len0).getD k sg0).ty = 1 → ((z0.take len0).getD k sg0).va + ((z0.take len0).getD k sg0).me ≤ ((z0.take len0).getD i sg0).va ∧ ((z0.take len0).getD k sg0).va + ((z0.take len0).getD k sg0).me ≤ 4294967296) := Lib.hid (fun k i h1 h2 h3 h4 =>
        apart_va hf HS.out.hok h1 (by have := HS.out.hl; omega) h3 h4)
      clear hf he
      generalize z0.take len0 = L at *
      generalize lowS L = lo at *
      generalize lastEnd L = hi at *
      obtain ⟨g0, g1, g2, g3, g4, -⟩ := hlast
      obtain ⟨p, pe, hpe, hpp⟩ := hpf
      rw [hpe] at HPL
      have HPP := Lib.hid hpp
      clear hpe hpp
      go_wp2_with fail
      refine HC.out.mono ?_
      rintro r v2 ⟨rfl, hb2⟩
      have HB2 := Lib.hid (HB1.out.trans (hb2.mono HB1.out.size))
      clear hb2
      go_wp2_with fail
      refine (HSP.out _ HB2.out).mono ?_
      rintro r v3 ⟨rfl, hb3⟩
      have HB3 := Lib.hid (HB2.out.trans (hb3.mono HB2.out.size))
      clear hb3
      go_wp2_with fail
      refine (HRS.out _ HB3.out).mono ?_
      rintro r v4 ⟨rfl, hb4⟩
      have HB4 := Lib.hid (HB3.out.trans (hb4.mono HB3.out.size))
      clear hb4
      have f1 : (lo % 256 != 0) = false := by simp [g2]
      have f2 : (hi % 256 != 0) = false := by simp [g3]
      go_wp2
      go_loopw [14, 15] (fun i _ wr => ∃ k : Nat, k ≤ len0 ∧ i = .int .i64 k ∧ Below w.heap.size w wr) (fun i _ _ => len0 - (intOf i).toNat)
      case atStart => exact ⟨0, Nat.zero_le _, rfl, HB4.out⟩
      case round =>
        obtain ⟨i, hi', rfl, hbel⟩ := hrel
        by_cases hlt : i < len0
        · have HBE := Lib.hid hbel
          clear hbel
          go_wp2
          go_loopw [15] (fun j wx => ∃ k : Nat, k ≤ i ∧ j = .int .i64 k ∧ Below w.heap.size w wx) (fun j _ => i - (intOf j).toNat)
          case atStart => exact ⟨0, Nat.zero_le _, rfl, HBE.out⟩
          case round =>
            obtain ⟨k, hk, rfl, hbx⟩ := hrel
            by_cases hki : k < i
            · obtain ⟨b, off, rfl, hbB, hcell⟩ := HS.out.hc (by omega)
              have hs1 := (hcell i hlt).below hbx hbB
              have hs2 := (hcell k (by omega)).below hbx hbB
              have hap := HAP.out k i hki hlt
              have hok2 := HS.out.okAt (i := k) (by omega)
              have HBX := Lib.hid hbx
              have hkl : k < len0 := by omega
              have hkli : (k : Int) < len0 := by omega
              generalize L.getD i sg0 = s at hs1 hap
              generalize L.getD k sg0 = t at hs2 hap hok2
              clear hcell hbx
              obtain ⟨-, -, -, ⟨d0, d1⟩, -, ⟨m0, m1⟩, -⟩ := hok2
              obtain ⟨x0, x1, x2, x3, x4, x5, x6⟩ := hs1
              obtain ⟨u0, u1, u2, u3, u4, u5, u6⟩ := hs2
              obtain ⟨ty, fl, ot, va, fi, me, al⟩ := s
              obtain ⟨ty2, fl2, ot2, va2, fi2, me2, al2⟩ := t
              simp only at x0 x1 x2 x3 x4 x5 x6 u0 u1 u2 u3 u4 u5 u6 hap d0 d1 m0 m1
              by_cases q1 : ty = 1
              · by_cases q2 : ty2 = 1
                · obtain ⟨r1, r2⟩ := hap q1 q2
                  have hw : IntKind.u64.wrap (va2 + me2) = va2 + me2 := by rw [IntKind.wrap_u64]; omega
                  have hd : decide (va < va2 + me2) = false := by simp; omega
                  clear hap
                  subst q1 q2
                  go_wp2
                  go_quiet (fail)
                  go_wp2
                  go_roundw
                  case rel => exact ⟨k + 1, by omega, by go_num, below_drewN HBX.out _⟩
                  case measure => (simp [intOf] <;> omega)
                · have q2' : (ty2 == 1) = false := by simpa using q2
                  clear hap
                  subst q1
                  go_wp2
                  go_quiet (fail)
                  go_wp2
                  go_roundw
                  case rel => exact ⟨k + 1, by omega, by go_num, below_drewN HBX.out _⟩
                  case measure => (simp [intOf] <;> omega)
              · have q1' : (ty == 1) = false := by simpa using q1
                clear hap
                go_wp2
                go_quiet (fail)
                go_wp2
                go_roundw
                case rel => exact ⟨k + 1, by omega, by go_num, below_drewN HBX.out _⟩
                case measure => (simp [intOf] <;> omega)
            · obtain rfl : k = i := by omega
              have HBX := Lib.hid hbx
              clear hbx
              go_wp2
              go_roundw
              case rel => exact ⟨k + 1, by omega, by go_num, HBX.out⟩
              case measure => (simp [intOf] <;> omega)
        · obtain rfl : i = len0 := by omega
          have HBE := Lib.hid hbel
          clear hbel
          rcases HPP.out with rfl | ⟨rfl, p0, p1, p2⟩
          · go_wp2_with fail
            refine (HPL.out _ HBE.out).mono ?_
            rintro r v5 ⟨rfl, hb5⟩
            have HB5 := Lib.hid (HBE.out.trans (hb5.mono HBE.out.size))
            clear hb5
            go_wp2
            go_ret
            exact ⟨ret_bool (by simp), HB5.out⟩
          · have hw : IntKind.u64.wrap (a1 - p) = a1 - p := by rw [IntKind.wrap_u64]; omega
            go_wp2_with fail
            refine (HPL.out _ HBE.out).mono ?_
            rintro r v5 ⟨rfl, hb5⟩
            have HB5 := Lib.hid (HBE.out.trans (hb5.mono HBE.out.size))
            clear hb5
            go_wp2
            go_ret
            exact ⟨ret_bool (by simp <;> omega), HB5.out⟩
    · have he0' : (e != 0) = true := by simpa using he0
      clear he
      go_wp2_with fail
      refine HC.out.mono ?_
      rintro r v2 ⟨rfl, hb2⟩
      have HB2 := Lib.hid (HB1.out.trans (hb2.mono HB1.out.size))
      clear hb2
      go_wp2
      go_ret
      exact ⟨rfl, HB2.out⟩

set_option maxRecDepth 100000 in
theorem lifted (os : Os) (started : os.Started) (H : Type) (enc : TypeId × Value → H) :
    ReturnsInHanded {} Try.checked os 8 .any (Rows.segsSpansSpec.pre6 enc Try.prog Try.f8 Rows.segsSpansRow.domain false) (Rows.segsSpansSpec.post enc Try.prog Try.f8 false true false false) := by
  refine returnsInHanded_of_change (C := Try.checked) own started (by kernel_rfl) Try.func8
    (ChangeSpec.witness6 (enc := enc) (C := Try.checked) false ⟨#[], #[.slice none 0 0, .int .u64 0, .int .u64 0, .int .u64 0], []⟩ 8 (by kernel_rfl) (by kernel_rfl) (by kernel_rfl) (by kernel_rfl)) ?_
  intro W base args ds gs before hval0 hW hcnd _
  have hval : ∀ (j : Nat) t v, Try.f8.params[j]? = some t → args[j]? = some v → Value.okWide Try.prog W .any base t v := hval0
  have hW' := hW
  obtain ⟨p, q, hA0, hV, rfl, hfz, hnd⟩ := hW
  have hA : DataW.TrodAll enc Try.prog W 0 (fun _ => true) true Try.f8.params.toList args.toList ds p := hA0
  rw [Try.params8] at hA hval
  obtain ⟨v0, vs0, d0, ds0, p0, q0, hargs, rfl, rfl, h0, r0⟩ := trodAll_cons hA
  obtain ⟨v1, vs1, d1, ds1, p1, q1, rfl, rfl, rfl, h1, r1⟩ := trodAll_cons r0
  obtain ⟨v2, vs2, d2, ds2, p2, q2, rfl, rfl, rfl, h2, r2⟩ := trodAll_cons r1
  obtain ⟨v3, vs3, d3, ds3, p3, q3, rfl, rfl, rfl, h3, r3⟩ := trodAll_cons r2
  obtain ⟨rfl, rfl, rfl⟩ := trodAll_nil r3
  obtain rfl : args = #[v0, v1, v2, v3] := by cases args; simp_all
  obtain ⟨rfl, rfl⟩ := trodVars_none hV
  obtain ⟨a0, len0, cap0, rfl⟩ := okWide_slice Try.underlying33 (hval 0 33 v0 rfl rfl)
  have k0 := h0
  have lt0 : ∀ x ∈ p0, x.block < W.heap.size := by obtain ⟨m, hm⟩ := k0; exact DataW.trod_lt m _ _ _ hm
  obtain ⟨z0, w0⟩ : ∃ zs, IsSgs W a0 len0 cap0 zs := by
    obtain ⟨fuel, hf⟩ := h0
    exact open_segs hf
  obtain ⟨a1, rfl, rfl, rfl, w1⟩ := open_int Try.underlying23 (hval 1 23 v1 rfl rfl) h1
  obtain ⟨a2, rfl, rfl, rfl, w2⟩ := open_int Try.underlying23 (hval 2 23 v2 rfl rfl) h2
  obtain ⟨a3, rfl, rfl, rfl, w3⟩ := open_int Try.underlying23 (hval 3 23 v3 rfl rfl) h3
  clear hA0 hval0
  refine (walk a0 len0 cap0 z0 a1 a2 a3 W w0 w1 w2 w3).mono fun e W' ⟨he, bel⟩ => ?_
  subst he
  exact ⟨_, rfl, _, _, _, [], _, [], hW', trodAll_mk1 (shut_bool Try.underlying4 _), (trodAll_cons_mk (Below.trod laidOut (by kernel_rfl) (of_decide_eq_true (by kernel_rfl)) k0 bel lt0) (trodAll_cons_mk (shut_int Try.underlying23 w1) (trodAll_cons_mk (shut_int Try.underlying23 w2) (trodAll_cons_mk (shut_int Try.underlying23 w3) trodAll_mk0)))), rfl, bel.frame _, fun h => by cases h⟩

theorem over : Rows.segsSpansRow.holds Try.pinned (OpenSpec.ofChange Rows.segsSpansSpec) :=
  OpenClaim.holds_of_wide 8 Try.f8 rfl rfl rfl rfl rfl rfl rfl ⟨rfl, rfl, rfl, rfl, rfl⟩ rfl rfl rfl rfl rfl (by kernel_rfl) Try.func8 (by kernel_rfl)
    (of_decide_eq_true (by kernel_rfl)) (by unfold Func.isWrapper; first | (rw [if_pos (by decide +kernel)]; kernel_rfl) | (rw [if_neg (by decide +kernel)]; exact ⟨rfl, rfl⟩))
    (fun os started H enc _ => lifted os started H enc)

theorem proved : Rows.SegsSpansSaid := over
#print axioms proved
end Go.Proofs.Ytgomemienmchnaa.segsSpans
