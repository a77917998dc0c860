/-
  What is proved here: SymbolsBack: what is put, one behind the other, is read; one byte more is refused.
  Conditions: none of our own; the law's row says what its input is.
-/
import Derived.Test.YtpodnhieaboddaaRows
import Derived.Test.YtpodnhieaboddaaSymAwake
import Derived.Test.YtpodnhieaboddaaSymFrame
import Derived.Test.YtpodnhieaboddaaApp
import Derived.WalkKit
import Derived.ProofKit
import Derived.OpenShut
import Derived.ShutString
import Derived.ChangeOld
import Derived.Below
namespace Go.Proofs.Ytpodnhieaboddaa.symbolsBack
open Go.ChangeShapes Go.WideShapes Go.ChangeAt Go.RowKit
open Go.ChangeMaps (open_string shut_string)
set_option linter.unusedVariables false

theorem own : ownKnob Try.prog.godebug = none := by kernel_rfl
theorem laidOut : laidOutB Try.prog = true := by kernel_rfl

set_option maxRecDepth 100000 in
set_option maxHeartbeats 1600000 in
theorem walk (a0 : Option Addr) (len0 cap0 : Nat) (z0 : List Sy) (w : World) (w0 : Sy.Is w a0 len0 cap0 z0) :
    Calls Try.prog 6 #[.slice a0 len0 cap0] w fun e w' => e = .returned (.bool true) ∧ Below w.heap.size w w' := by
  obtain ⟨hs, hcap, hcm⟩ := w0.sl
  obtain ⟨i0, hi, hz0, hz1, hz2⟩ := info_parts info_u8
  have HI := Lib.hid hi
  have HZ0 := Lib.hid hz0
  have HZ1 := Lib.hid hz1
  have HZ2 := Lib.hid hz2
  generalize z0.take len0 = L at hs
  have HS := Lib.hid hs
  have HLL := Lib.hid hs.hl
  clear w0 hs hi hz0 hz1 hz2
  go_enter Try.func6, Try.ntmps6
  go_wp2_with fail
  refine (awake_any _).mono ?_
  rintro r v1 ⟨rfl, hb1⟩
  have HB1 := Lib.hid hb1
  clear hb1
  by_cases h4k : 200 < len0
  · have h4i : (200 : Int) < len0 := by omega
    go_wp2
    go_ret
    exact ⟨rfl, HB1.out⟩
  · have h4i : (len0 : Int) ≤ 200 := by omega
    go_wp2
    go_loopw [4, 5] (fun v i wr => ∃ k : Nat, k ≤ len0 ∧ i = .int .i64 k ∧ wr.ownsRow w.heap.size 5 1 v (24 * k) ((flatE (L.take k)).map (Value.int .u8)) ∧ Below w.heap.size w wr) (fun _ i _ => len0 - (intOf i).toNat)
    case atStart => exact ⟨0, Nat.zero_le _, rfl, World.ownsRow_nil _ _ _ _, HB1.out⟩
    case round =>
      obtain ⟨k, hk, rfl, hown, hbel⟩ := hrel
      obtain ⟨ba, bc, rfl, hbc1, hbc2⟩ := own_slice_cap hown
      by_cases hlt : k < len0
      · obtain ⟨b, off, rfl, hbB, hcell⟩ := HS.out.hc (by omega)
        have hs1 := (hcell k hlt).below hbel hbB
        have hok := HS.out.okAt hlt
        have HST : Hid (flatE (L.take (k + 1)) = flatE (L.take k) ++ encY (L.getD k Sy.zero)) := Lib.hid (by
          rw [Sy.take_snoc (by have := HLL.out; omega), flatE_snoc])
        have hlti : (k : Int) < len0 := by omega
        have HOW := Lib.hid hown
        have HBE := Lib.hid hbel
        generalize L.getD k Sy.zero = s at hs1 hok HST
        have HP := Lib.hid (fun w1 => sput_ok s w1 hok)
        have HEL := Lib.hid (encY_len s)
        generalize encY s = es at HP HEL HST
        clear hcell hown hbel hok
        obtain ⟨x0, x1, x2, x3, x4, x5⟩ := hs1
        obtain ⟨na, inf, ot, se, va, si⟩ := s
        unfold Sy.val at HP
        simp only at x0 x1 x2 x3 x4 x5 HP
        go_wp2_with fail
        refine (HP.out _).mono ?_
        rintro r w3 ⟨⟨u, rfl, g, c, rfl, _, _, hm⟩, hb3⟩
        rw [HEL.out] at hm ⊢
        have HM := Lib.hid hm
        have HO3 := Lib.hid (own_below HOW.out hb3)
        have HB3 := Lib.hid (HBE.out.trans (hb3.mono HBE.out.size))
        clear hm hb3
        go_wp2_with (at_builtin; refine wpList_append_bys rfl _ _ 28 rfl w.heap.size 5 i0 (.int .u8 0) 1 Try.underlying28 HI.out HZ0.out HZ1.out HZ2.out rfl _ (24 * k) _ rfl HO3.out _ 24 c _ es rfl HM.out (fun h => by cases h) ?d1 ?d2 ?d3 ?_)
        case d1 => unfold maxLen; omega
        case d2 => omega
        case d3 => exact HB3.out.size
        intro v4 w4 hown4 hg4
        have hb4 := HB3.out.grown hg4 HB3.out.size (fun q e => (HO3.out.lt q e).1)
        have HO4 : Hid (w4.ownsRow w.heap.size 5 1 v4 (24 * (k + 1)) ((flatE (L.take (k + 1))).map (Value.int .u8))) := Lib.hid (by
          rw [HST.out, show 24 * (k + 1) = 24 * k + 24 by omega]; simpa only [List.map_append, List.append_assoc] using hown4)
        clear hown4 hg4
        go_wp2
        go_roundw
        case rel => exact ⟨k + 1, by omega, by go_num, HO4.out, hb4⟩
        case measure => (simp [intOf] <;> omega)
      · obtain rfl : k = len0 := by omega
        have htk : L.take k = L := List.take_of_length_le (by have := HLL.out; omega)
        rw [htk] at hown
        have HRZ := Lib.hid (flatE_bd HS.out.hok)
        have HOW := Lib.hid hown
        have HBY := Lib.hid (Bys.own HRZ.out hown)
        have HBE := Lib.hid hbel
        have hT1 := stable_any wr.heap.size ba (24 * k) bc (flatE L) wr HBY.out (Nat.le_refl _) (by omega) hbc1 hbc2
        rw [tabY_flat HS.out.hok, HLL.out] at hT1
        have HT1 := Lib.hid hT1
        have HTM := Lib.hid (tabY_more (L := L) 0)
        have HFL := Lib.hid (flatE_len L)
        clear hT1 hown hbel htk
        generalize flatE L = fs at HRZ HOW HBY HTM HFL
        go_wp2_with fail
        refine HT1.out.mono ?_
        rintro r w5 ⟨⟨u, rfl, ho⟩, hb5⟩
        obtain ⟨ta, tc, rfl, -, -⟩ := Sy.own_slice ho
        have HTA := Lib.hid (Sy.Sl.own HS.out.hok ho)
        have HO5 := Lib.hid (own_below HOW.out hb5)
        have HB5 := Lib.hid (HBE.out.trans (hb5.mono HBE.out.size))
        clear ho hb5
        go_wp2
        go_loopw [8] (fun i wq => ∃ j : Nat, j ≤ k ∧ i = .int .i64 j ∧ Below w5.heap.size w5 wq) (fun i _ => k - (intOf i).toNat)
        case atStart => exact ⟨0, Nat.zero_le _, rfl, Below.refl _ _⟩
        case round =>
          obtain ⟨j, hj, rfl, hbq⟩ := hrel
          by_cases hjk : j < k
          · obtain ⟨b, off, rfl, hbB, hcell⟩ := HS.out.hc (by omega)
            obtain ⟨b', off', rfl, hbB', hcell'⟩ := HTA.out.hc (by omega)
            have hs1 := (hcell j hjk).below (HB5.out.trans (hbq.mono HB5.out.size)) hbB
            have hs2 := (hcell' j hjk).below hbq hbB'
            have HBQ := Lib.hid hbq
            have hji : (j : Int) < k := by omega
            generalize L.getD j Sy.zero = s at hs1 hs2
            clear hcell hcell' hbq
            obtain ⟨x0, x1, x2, x3, x4, x5⟩ := hs1
            obtain ⟨u0, u1, u2, u3, u4, u5⟩ := hs2
            obtain ⟨na, inf, ot, se, va, si⟩ := s
            simp only at x0 x1 x2 x3 x4 x5 u0 u1 u2 u3 u4 u5
            go_wp2
            go_quiet (fail)
            go_wp2
            go_roundw
            case rel => exact ⟨j + 1, by omega, by go_num, below_drewN HBQ.out _⟩
            case measure => (simp [intOf] <;> omega)
          · obtain rfl : j = k := by omega
            have HO6 := Lib.hid (own_below HO5.out hbq)
            have HB6 := Lib.hid (HB5.out.trans (hbq.mono HB5.out.size))
            have hs6 := HB6.out.size
            clear hbq
            go_wp2_with (at_builtin; refine wpList_append_own _ rfl _ _ 28 rfl w.heap.size 5 i0 (.int .u8 0) 1 1 Try.underlying28 HI.out HZ0.out HZ1.out HZ2.out rfl (by decide) _ (24 * j) _ rfl (HO6.out.alloc _) ⟨wr.heap.size, 0, none⟩ 1 1 [.int .u8 0] rfl rfl ?e1 ?e2 ?e3 ?e4 ?e5 ?_)
            case e1 => exact cell_one_new _ _ _
            case e2 => intro u hu; obtain rfl := List.mem_singleton.1 hu; rfl
            case e3 => unfold maxLen; omega
            case e4 => omega
            case e5 => simp; omega
            intro v7 w7 hown7 hg7 hnil7
            obtain ⟨da, dc, rfl, hdc1, hdc2⟩ := own_slice_cap hown7
            have hb7 : Below w.heap.size w w7 := (HB6.out.alloc hs6 _).grown hg7 (by simp; omega) (fun q e => (HO6.out.lt q e).1)
            have hby7 : Bys w7 w7.heap.size da (24 * j + 1) (fs ++ [0]) := Bys.own (by
              intro n hn
              rcases List.mem_append.1 hn with hn | hn
              · exact HRZ.out n hn
              · obtain rfl := List.mem_singleton.1 hn; decide) (by simpa only [List.map_append, List.map_cons, List.map_nil] using hown7)
            have hT2 := stable_any w7.heap.size da (24 * j + 1) dc (fs ++ [0]) w7 hby7 (Nat.le_refl _) (by omega) hdc1 hdc2
            rw [HTM.out] at hT2
            have HT2 := Lib.hid hT2
            have HB7 := Lib.hid hb7
            clear hown7 hg7 hnil7 hb7 hby7 hT2
            go_wp2_with fail
            refine HT2.out.mono ?_
            rintro r w8 ⟨⟨u, rfl, -⟩, hb8⟩
            have HB8 := Lib.hid (HB7.out.trans (hb8.mono HB7.out.size))
            clear hb8
            go_wp2
            go_ret
            exact ⟨rfl, HB8.out⟩

set_option maxRecDepth 100000 in
theorem lifted (os : Os) (started : os.Started) (H : Type) (enc : TypeId × Value → H) :
    ReturnsInHanded {} Try.checked os 6 .any (Rows.symbolsBackSpec.pre6 enc Try.prog Try.f6 Rows.symbolsBackRow.domain false) (Rows.symbolsBackSpec.post enc Try.prog Try.f6 false true false false) := by
  refine returnsInHanded_of_change (C := Try.checked) own started (by kernel_rfl) Try.func6
    (ChangeSpec.witness6 (enc := enc) (C := Try.checked) false ⟨#[], #[.slice none 0 0], []⟩ 8 (by kernel_rfl) (by kernel_rfl) (by kernel_rfl) (by kernel_rfl)) ?_
  intro W base args ds gs before hval0 hW hcnd _
  have hval : ∀ (j : Nat) t v, Try.f6.params[j]? = some t → args[j]? = some v → Value.okWide Try.prog W .any base t v := hval0
  have hW' := hW
  obtain ⟨p, q, hA0, hV, rfl, hfz, hnd⟩ := hW
  have hA : DataW.TrodAll enc Try.prog W 0 (fun _ => true) true Try.f6.params.toList args.toList ds p := hA0
  rw [Try.params6] at hA hval
  obtain ⟨v0, vs0, d0, ds0, p0, q0, hargs, rfl, rfl, h0, r0⟩ := trodAll_cons hA
  obtain ⟨rfl, rfl, rfl⟩ := trodAll_nil r0
  obtain rfl : args = #[v0] := by cases args; simp_all
  obtain ⟨rfl, rfl⟩ := trodVars_none hV
  obtain ⟨a0, len0, cap0, rfl⟩ := okWide_slice Try.underlying32 (hval 0 32 v0 rfl rfl)
  have k0 := h0
  have lt0 : ∀ x ∈ p0, x.block < W.heap.size := by obtain ⟨m, hm⟩ := k0; exact DataW.trod_lt m _ _ _ hm
  obtain ⟨z0, w0⟩ : ∃ zs, Sy.Is W a0 len0 cap0 zs := by
    obtain ⟨fuel, hf⟩ := h0
    exact Sy.opens hf
  clear hA0 hval0
  refine (walk a0 len0 cap0 z0 W w0).mono fun e W' ⟨he, bel⟩ => ?_
  subst he
  exact ⟨_, rfl, _, _, _, [], _, [], hW', trodAll_mk1 (shut_bool Try.underlying4 _), (trodAll_cons_mk (Below.trod laidOut (by kernel_rfl) (of_decide_eq_true (by kernel_rfl)) k0 bel lt0) trodAll_mk0), rfl, bel.frame _, fun h => by cases h⟩

theorem over : Rows.symbolsBackRow.holds Try.pinned (OpenSpec.ofChange Rows.symbolsBackSpec) :=
  OpenClaim.holds_of_wide 6 Try.f6 rfl rfl rfl rfl rfl rfl rfl ⟨rfl, rfl, rfl, rfl, rfl⟩ rfl rfl rfl rfl rfl (by kernel_rfl) Try.func6 (by kernel_rfl)
    (of_decide_eq_true (by kernel_rfl)) (by unfold Func.isWrapper; first | (rw [if_pos (by decide +kernel)]; kernel_rfl) | (rw [if_neg (by decide +kernel)]; exact ⟨rfl, rfl⟩))
    (fun os started H enc _ => lifted os started H enc)

theorem proved : Rows.SymbolsBackSaid := over
#print axioms proved
end Go.Proofs.Ytpodnhieaboddaa.symbolsBack
