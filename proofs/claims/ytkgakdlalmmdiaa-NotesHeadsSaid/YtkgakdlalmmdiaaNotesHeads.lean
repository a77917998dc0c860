/-
  What is proved here: NotesHeads: a note whose head says any lengths, ahead of any bytes, is what the reference says, or refused with the same error.
  Conditions: none of our own; the law's row says what its input is.
-/
import Derived.Test.YtkgakdlalmmdiaaRows
import Derived.Test.YtkgakdlalmmdiaaNotEnd
import Derived.Test.YtkgakdlalmmdiaaNotFrame
import Derived.Test.YtkgakdlalmmdiaaApp
import Derived.WalkKit
import Derived.ProofKit
import Derived.OpenShut
import Derived.ShutString
import Derived.ChangeOld
import Derived.Below
namespace Go.Proofs.Ytkgakdlalmmdiaa.notesHeads
open Go.ChangeShapes Go.WideShapes Go.ChangeAt Go.RowKit
open Go.ChangeMaps (open_string shut_string)
set_option linter.unusedVariables false

theorem own : ownKnob Try.prog.godebug = none := by kernel_rfl
theorem laidOut : laidOutB Try.prog = true := by kernel_rfl

set_option maxRecDepth 100000 in
set_option maxHeartbeats 1600000 in
theorem walk (a0 : Int) (a1 : Int) (a2 : Int) (a3 : Option Addr) (len3 cap3 : Nat) (z3 : List Int) (w : World) (w0 : (Lit.int .u32 a0).wf = true) (w1 : (Lit.int .u32 a1).wf = true) (w2 : (Lit.int .u32 a2).wf = true) (w3 : IsRow .u8 w a3 len3 cap3 z3) :
    Calls Try.prog 7 #[.int .u32 a0, .int .u32 a1, .int .u32 a2, .slice a3 len3 cap3] w fun e w' => e = .returned (.bool true) ∧ Below w.heap.size w w' := by
  obtain ⟨i0, hi, hz0, hz1, hz2⟩ := info_parts info_u8
  have HI := Lib.hid hi
  have HZ0 := Lib.hid hz0
  have HZ1 := Lib.hid hz1
  have HZ2 := Lib.hid hz2
  have HN : Hid (a3 = none → cap3 = 0) := Lib.hid (by
    rcases w3 with ⟨_, _, h, _⟩ | ⟨x, h, _⟩
    · exact fun _ => h
    · rw [h]; exact fun e => by cases e)
  obtain ⟨hs, hcap, hcm⟩ := w3.bys
  obtain ⟨a00, a01⟩ : 0 ≤ a0 ∧ a0 ≤ 4294967295 := Nt.wf_uint32 w0
  obtain ⟨a10, a11⟩ : 0 ≤ a1 ∧ a1 ≤ 4294967295 := Nt.wf_uint32 w1
  obtain ⟨a20, a21⟩ : 0 ≤ a2 ∧ a2 ≤ 4294967295 := Nt.wf_uint32 w2
  generalize z3.take len3 = ZB at hs
  have HS := Lib.hid hs
  clear w0 w1 w2 w3 hs hi hz0 hz1 hz2
  go_enter Try.func7, Try.ntmps7
  go_wp2_with fail
  refine (awake_any _).mono ?_
  rintro r v1 ⟨rfl, hb1⟩
  have HB1 := Lib.hid hb1
  clear hb1
  by_cases h5k : 2000 < len3
  · have h5i : (2000 : Int) < len3 := by omega
    go_wp2
    go_ret
    exact ⟨rfl, HB1.out⟩
  · have h5i : (len3 : Int) ≤ 2000 := by omega
    have HO0 : Hid (v1.ownsRow w.heap.size 5 1 (.slice none 0 0) 0 (([] : List Int).map (Value.int .u8))) := Lib.hid (World.ownsRow_nil _ _ _ _)
    go_wp2
    go_loopw [10, 11] (fun v i wr => ∃ k : Nat, k ≤ 4 ∧ i = .int .i64 k ∧ wr.ownsRow w.heap.size 5 1 v (k) ((digs a0 k).map (Value.int .u8)) ∧ Below w.heap.size w wr) (fun _ i _ => 4 - (intOf i).toNat)
    case atStart => exact ⟨0, by decide, rfl, by simpa [digs] using HO0.out, HB1.out⟩
    case round =>
      obtain ⟨k, hk, rfl, hown, hbel⟩ := hrel
      by_cases hlt : k < 4
      · have hdg : Hid (digs a0 (k + 1) = digs a0 k ++ [a0 / 256 ^ k % 256]) := Lib.hid (by first | rfl | (rw [List.append_assoc]; rfl))
        have hsb := Lib.hid (shr_byte a0 k)
        have hsz := hbel.size
        have HOWN := Lib.hid hown
        clear hown
        go_wp2_with (at_builtin; refine wpList_append_own _ rfl _ _ 25 rfl w.heap.size 5 i0 (.int .u8 0) 1 1 Try.underlying25 HI.out HZ0.out HZ1.out HZ2.out rfl (by decide) _ (k) _ rfl (HOWN.out.alloc _) ⟨wr.heap.size, 0, none⟩ 1 1 [.int .u8 (a0 / 2 ^ (8 * k) % 256)] rfl rfl ?p01 ?p02 ?p03 ?p04 ?p05 ?_)
        case p01 => exact cell_one_new _ _ _
        case p02 => intro u hu; obtain rfl := List.mem_singleton.1 hu; rfl
        case p03 => unfold maxLen; omega
        case p04 => omega
        case p05 => simp; omega
        intro v2 w2 hown2 hg2 hnil2
        have hb2 : Below w.heap.size w w2 := (hbel.alloc (by omega) _).grown hg2 (by simp; omega) (fun q e => (HOWN.out.lt q e).1)
        have HO2 : Hid (w2.ownsRow w.heap.size 5 1 v2 ((k + 1)) ((digs a0 (k + 1)).map (Value.int .u8))) := Lib.hid (by
          rw [hdg.out, ← hsb.out, List.map_append]; exact hown2)
        clear hown2 hg2 hnil2 hbel
        go_wp2
        go_roundw
        case rel => exact ⟨k + 1, by omega, by go_num, HO2.out, hb2⟩
        case measure => (simp [intOf] <;> omega)
      · obtain rfl : k = 4 := by omega
        have HO1 := Lib.hid hown
        have HB2 := Lib.hid hbel
        clear hown hbel
        rw [show ((4 : Nat) : Int) = 4 from rfl]
        obtain ⟨wo0, rfl⟩ : ∃ wo : World, wo = wr := ⟨_, rfl⟩
        go_wp2
        go_loopw [10, 12] (fun v i wr => ∃ k : Nat, k ≤ 4 ∧ i = .int .i64 k ∧ wr.ownsRow w.heap.size 5 1 v (4 + k) ((digs a0 4 ++ digs a1 k).map (Value.int .u8)) ∧ Below w.heap.size w wr) (fun _ i _ => 4 - (intOf i).toNat)
        case atStart => exact ⟨0, by decide, rfl, by simpa [digs] using HO1.out, HB2.out⟩
        case round =>
          obtain ⟨k, hk, rfl, hown, hbel⟩ := hrel
          by_cases hlt : k < 4
          · have hdg : Hid (digs a0 4 ++ digs a1 (k + 1) = digs a0 4 ++ digs a1 k ++ [a1 / 256 ^ k % 256]) := Lib.hid (by first | rfl | (rw [List.append_assoc]; rfl))
            have hsb := Lib.hid (shr_byte a1 k)
            have hsz := hbel.size
            have HOWN := Lib.hid hown
            clear hown
            go_wp2_with (at_builtin; refine wpList_append_own _ rfl _ _ 25 rfl w.heap.size 5 i0 (.int .u8 0) 1 1 Try.underlying25 HI.out HZ0.out HZ1.out HZ2.out rfl (by decide) _ (4 + k) _ rfl (HOWN.out.alloc _) ⟨wr.heap.size, 0, none⟩ 1 1 [.int .u8 (a1 / 2 ^ (8 * k) % 256)] rfl rfl ?p11 ?p12 ?p13 ?p14 ?p15 ?_)
            case p11 => exact cell_one_new _ _ _
            case p12 => intro u hu; obtain rfl := List.mem_singleton.1 hu; rfl
            case p13 => unfold maxLen; omega
            case p14 => omega
            case p15 => simp; omega
            intro v2 w2 hown2 hg2 hnil2
            have hb2 : Below w.heap.size w w2 := (hbel.alloc (by omega) _).grown hg2 (by simp; omega) (fun q e => (HOWN.out.lt q e).1)
            have HO2 : Hid (w2.ownsRow w.heap.size 5 1 v2 (4 + (k + 1)) ((digs a0 4 ++ digs a1 (k + 1)).map (Value.int .u8))) := Lib.hid (by
              rw [hdg.out, ← hsb.out, List.map_append]; exact hown2)
            clear hown2 hg2 hnil2 hbel
            go_wp2
            go_roundw
            case rel => exact ⟨k + 1, by omega, by go_num, HO2.out, hb2⟩
            case measure => (simp [intOf] <;> omega)
          · obtain rfl : k = 4 := by omega
            have HO2 := Lib.hid hown
            have HB3 := Lib.hid hbel
            clear hown hbel
            rw [show ((4 : Nat) : Int) = 4 from rfl]
            obtain ⟨wo1, rfl⟩ : ∃ wo : World, wo = wr := ⟨_, rfl⟩
            go_wp2
            go_loopw [10, 13] (fun v i wr => ∃ k : Nat, k ≤ 4 ∧ i = .int .i64 k ∧ wr.ownsRow w.heap.size 5 1 v (8 + k) ((digs a0 4 ++ digs a1 4 ++ digs a2 k).map (Value.int .u8)) ∧ Below w.heap.size w wr) (fun _ i _ => 4 - (intOf i).toNat)
            case atStart => exact ⟨0, by decide, rfl, by simpa [digs] using HO2.out, HB3.out⟩
            case round =>
              obtain ⟨k, hk, rfl, hown, hbel⟩ := hrel
              by_cases hlt : k < 4
              · have hdg : Hid (digs a0 4 ++ digs a1 4 ++ digs a2 (k + 1) = digs a0 4 ++ digs a1 4 ++ digs a2 k ++ [a2 / 256 ^ k % 256]) := Lib.hid (by first | rfl | (rw [List.append_assoc]; rfl))
                have hsb := Lib.hid (shr_byte a2 k)
                have hsz := hbel.size
                have HOWN := Lib.hid hown
                clear hown
                go_wp2_with (at_builtin; refine wpList_append_own _ rfl _ _ 25 rfl w.heap.size 5 i0 (.int .u8 0) 1 1 Try.underlying25 HI.out HZ0.out HZ1.out HZ2.out rfl (by decide) _ (8 + k) _ rfl (HOWN.out.alloc _) ⟨wr.heap.size, 0, none⟩ 1 1 [.int .u8 (a2 / 2 ^ (8 * k) % 256)] rfl rfl ?p21 ?p22 ?p23 ?p24 ?p25 ?_)
                case p21 => exact cell_one_new _ _ _
                case p22 => intro u hu; obtain rfl := List.mem_singleton.1 hu; rfl
                case p23 => unfold maxLen; omega
                case p24 => omega
                case p25 => simp; omega
                intro v2 w2 hown2 hg2 hnil2
                have hb2 : Below w.heap.size w w2 := (hbel.alloc (by omega) _).grown hg2 (by simp; omega) (fun q e => (HOWN.out.lt q e).1)
                have HO2 : Hid (w2.ownsRow w.heap.size 5 1 v2 (8 + (k + 1)) ((digs a0 4 ++ digs a1 4 ++ digs a2 (k + 1)).map (Value.int .u8))) := Lib.hid (by
                  rw [hdg.out, ← hsb.out, List.map_append]; exact hown2)
                clear hown2 hg2 hnil2 hbel
                go_wp2
                go_roundw
                case rel => exact ⟨k + 1, by omega, by go_num, HO2.out, hb2⟩
                case measure => (simp [intOf] <;> omega)
              · obtain rfl : k = 4 := by omega
                have HO3 := Lib.hid hown
                have HB4 := Lib.hid hbel
                clear hown hbel
                rw [show ((4 : Nat) : Int) = 4 from rfl]
                obtain ⟨wo2, rfl⟩ : ∃ wo : World, wo = wr := ⟨_, rfl⟩
                have HBY := Lib.hid (HS.out.below HB4.out)
                have hz4 := HB4.out.size
                go_wp2_with (at_builtin; refine wpList_append_bys rfl _ _ 25 rfl w.heap.size 5 i0 (.int .u8 0) 1 Try.underlying25 HI.out HZ0.out HZ1.out HZ2.out rfl _ 12 _ rfl HO3.out _ len3 cap3 _ ZB rfl HBY.out HN.out ?e1 ?e2 ?e3 ?_)
                case e1 => unfold maxLen; omega
                case e2 => omega
                case e3 => exact hz4
                intro c9 v9 hown9 hg9
                have HB9 := Lib.hid (HB4.out.grown hg9 HB4.out.size (fun q e => (HO3.out.lt q e).1))
                have HBD9 : Hid (∀ n ∈ digs a0 4 ++ digs a1 4 ++ digs a2 4 ++ ZB, 0 ≤ n ∧ n ≤ 255) := Lib.hid (by
                  intro n hn
                  simp only [List.mem_append] at hn
                  rcases hn with ((h1 | h1) | h1) | h1
                  · exact digs_bd _ _ n h1
                  · exact digs_bd _ _ n h1
                  · exact digs_bd _ _ n h1
                  · exact HBY.out.2.1 n h1)
                obtain ⟨ca, cc, rfl, hcc1, hcc2⟩ := own8_slice hown9
                have HS9 := Lib.hid (Bys.own HBD9.out (by rw [List.map_append]; exact hown9))
                generalize digs a0 4 ++ digs a1 4 ++ digs a2 4 ++ ZB = ZZ at HS9 HBD9
                clear hown9 hg9 HBY HO0 HO1 HO2 HO3
                have HG := Lib.hid (nget_any _ ca (12 + len3) cc _ v9 HS9.out (Nat.le_refl _) hcc1 hcc2)
                have HRG := Lib.hid (fun w1 (h1 : Below v9.heap.size v9 w1) => rget8_any _ ca (12 + len3) cc _ w1 ((HS9.out.below h1).more h1.size) (Nat.le_refl _) hcc1 hcc2)
                have HMX := Lib.hid (getN_max HS9.out.2.1)
                have HZL := Lib.hid HS9.out.1
                generalize getN ZZ = Z at HG HRG HMX
                obtain ⟨te, D⟩ := Z
                simp only at HMX
                clear HS HS9 HBD9
                go_wp2_with fail
                refine HG.out.mono ?_
                rintro r x1 ⟨⟨la, lc, M, rfl, hlc2, hlc1, hsl, hM⟩, hb1⟩
                have hM2 : M.length = D.length := by have := congrArg List.length hM; simpa using this
                have HSL := Lib.hid hsl
                have HX1 := Lib.hid hb1
                have HM := Lib.hid hM
                clear hsl hb1 hM HG
                go_wp2_with fail
                refine (HRG.out _ HX1.out).mono ?_
                rintro r x2 ⟨⟨ra, rc, N, rfl, hrc2, hrc1, hsr, hN⟩, hb2⟩
                have hN2 : N.length = D.length := by have := congrArg List.length hN; simpa using this
                have HSL2 := Lib.hid ((HSL.out.below hb2).more hb2.size)
                have HSR := Lib.hid hsr
                have HX2 := Lib.hid (HX1.out.trans (hb2.mono HX1.out.size))
                have HN := Lib.hid hN
                have HDL := Lib.hid HMX.out
                rw [hM2] at HSL2 hlc1
                rw [hN2] at HSR hrc1 ⊢
                have hd1 : D.length ≤ 1000000 := by have := HDL.out; have := HZL.out; omega
                have HD : Hid (M.map Nt.nd = N.map Nt.nd) := Lib.hid (by rw [HM.out, HN.out])
                generalize D.length = m at HSL2 HSR hlc1 hrc1 hd1 hM2 hN2 HDL
                clear hsr hb2 hN HRG HX1 HSL HMX HDL HM HN hM2 hN2
                go_wp2_with fail
                refine (model8_any _ la m lc M x2 HSL2.out (Nat.le_refl _) hd1).mono ?_
                rintro r x3 ⟨⟨ua, uc, rfl, huc1, huc2, hsu⟩, hb3⟩
                have HSU := Lib.hid hsu
                have HSR3 := Lib.hid ((HSR.out.below hb3).more hb3.size)
                have HX3 := Lib.hid (HX2.out.trans (hb3.mono HX2.out.size))
                clear hsu hb3 HSR HX2 HSL2
                go_wp2_with fail
                refine (same8_any _ ua ra m uc m rc M N x3 true HSU.out HSR3.out (Nat.le_refl _) (by omega) (by omega) ⟨fun _ => HD.out, fun _ => rfl⟩).mono ?_
                rintro r x4 ⟨rfl, hb4⟩
                have HX4 := Lib.hid (HX3.out.trans (hb4.mono HX3.out.size))
                clear hb4
                go_wp2
                go_ret
                exact ⟨rfl, HB9.out.trans (HX4.out.mono HB9.out.size)⟩

set_option maxRecDepth 100000 in
theorem lifted (os : Os) (started : os.Started) (H : Type) (enc : TypeId × Value → H) :
    ReturnsInHanded {} Try.checked os 7 .any (Rows.notesHeadsSpec.pre6 enc Try.prog Try.f7 Rows.notesHeadsRow.domain false) (Rows.notesHeadsSpec.post enc Try.prog Try.f7 false true false false) := by
  refine returnsInHanded_of_change (C := Try.checked) own started (by kernel_rfl) Try.func7
    (ChangeSpec.witness6 (enc := enc) (C := Try.checked) false ⟨#[], #[.int .u32 0, .int .u32 0, .int .u32 0, .slice none 0 0], []⟩ 8 (by kernel_rfl) (by kernel_rfl) (by kernel_rfl) (by kernel_rfl)) ?_
  intro W base args ds gs before hval0 hW hcnd _
  have hval : ∀ (j : Nat) t v, Try.f7.params[j]? = some t → args[j]? = some v → Value.okWide Try.prog W .any base t v := hval0
  have hW' := hW
  obtain ⟨p, q, hA0, hV, rfl, hfz, hnd⟩ := hW
  have hA : DataW.TrodAll enc Try.prog W 0 (fun _ => true) true Try.f7.params.toList args.toList ds p := hA0
  rw [Try.params7] at hA hval
  obtain ⟨v0, vs0, d0, ds0, p0, q0, hargs, rfl, rfl, h0, r0⟩ := trodAll_cons hA
  obtain ⟨v1, vs1, d1, ds1, p1, q1, rfl, rfl, rfl, h1, r1⟩ := trodAll_cons r0
  obtain ⟨v2, vs2, d2, ds2, p2, q2, rfl, rfl, rfl, h2, r2⟩ := trodAll_cons r1
  obtain ⟨v3, vs3, d3, ds3, p3, q3, rfl, rfl, rfl, h3, r3⟩ := trodAll_cons r2
  obtain ⟨rfl, rfl, rfl⟩ := trodAll_nil r3
  obtain rfl : args = #[v0, v1, v2, v3] := by cases args; simp_all
  obtain ⟨rfl, rfl⟩ := trodVars_none hV
  obtain ⟨a0, rfl, rfl, rfl, w0⟩ := open_int Try.underlying38 (hval 0 38 v0 rfl rfl) h0
  obtain ⟨a1, rfl, rfl, rfl, w1⟩ := open_int Try.underlying38 (hval 1 38 v1 rfl rfl) h1
  obtain ⟨a2, rfl, rfl, rfl, w2⟩ := open_int Try.underlying38 (hval 2 38 v2 rfl rfl) h2
  obtain ⟨a3, len3, cap3, rfl⟩ := okWide_slice Try.underlying25 (hval 3 25 v3 rfl rfl)
  have k3 := h3
  have lt3 : ∀ x ∈ p3, x.block < W.heap.size := by obtain ⟨m, hm⟩ := k3; exact DataW.trod_lt m _ _ _ hm
  obtain ⟨z3, w3⟩ : ∃ zs, IsRow .u8 W a3 len3 cap3 zs := by
    obtain ⟨fuel, hf⟩ := h3
    rcases open_ints Try.underlying25 Try.underlying5 (by kernel_rfl) hf with ⟨hcs, _⟩ | ⟨x, l, c, zs, hcs, _, hl, hm, hz, _, hcell, hwz⟩
    · simp [Value.cells] at hcs
      obtain ⟨rfl, rfl, rfl⟩ := hcs
      exact ⟨[], .inl ⟨rfl, rfl, rfl, rfl⟩⟩
    · simp [Value.cells] at hcs
      obtain ⟨rfl, rfl, rfl⟩ := hcs
      exact ⟨zs, .inr ⟨_, rfl, hl, hm, by simpa using hz, hcell, hwz⟩⟩
  clear hA0 hval0
  refine (walk a0 a1 a2 a3 len3 cap3 z3 W w0 w1 w2 w3).mono fun e W' ⟨he, bel⟩ => ?_
  subst he
  exact ⟨_, rfl, _, _, _, [], _, [], hW', trodAll_mk1 (shut_bool Try.underlying4 _), (trodAll_cons_mk (shut_int Try.underlying38 w0) (trodAll_cons_mk (shut_int Try.underlying38 w1) (trodAll_cons_mk (shut_int Try.underlying38 w2) (trodAll_cons_mk (Below.trod laidOut (by kernel_rfl) (of_decide_eq_true (by kernel_rfl)) k3 bel lt3) trodAll_mk0)))), rfl, bel.frame _, fun h => by cases h⟩

theorem over : Rows.notesHeadsRow.holds Try.pinned (OpenSpec.ofChange Rows.notesHeadsSpec) :=
  OpenClaim.holds_of_wide 7 Try.f7 rfl rfl rfl rfl rfl rfl rfl ⟨rfl, rfl, rfl, rfl, rfl⟩ rfl rfl rfl rfl rfl (by kernel_rfl) Try.func7 (by kernel_rfl)
    (of_decide_eq_true (by kernel_rfl)) (by unfold Func.isWrapper; first | (rw [if_pos (by decide +kernel)]; kernel_rfl) | (rw [if_neg (by decide +kernel)]; exact ⟨rfl, rfl⟩))
    (fun os started H enc _ => lifted os started H enc)

theorem proved : Rows.NotesHeadsSaid := over
#print axioms proved
end Go.Proofs.Ytkgakdlalmmdiaa.notesHeads
