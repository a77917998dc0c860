/-
  What is proved here: SegsTables: any segments, one behind the other behind anything, are read as they were, and not one more.
  Conditions: none of our own; the law's row says what its input is.
-/
import Derived.Test.YtgomemienmchnaaRows
import Derived.Test.YtgomemienmchnaaSegAwake
import Derived.Test.YtgomemienmchnaaSegFrame
import Derived.Test.YtgomemienmchnaaSegBack
import Derived.WalkKit
import Derived.ProofKit
import Derived.OpenShut
import Derived.ShutString
import Derived.ChangeOld
import Derived.Below
namespace Go.Proofs.Ytgomemienmchnaa.segsTables
open Go.ChangeShapes Go.WideShapes Go.ChangeAt Go.RowKit
open Go.ChangeMaps (open_string shut_string)
set_option linter.unusedVariables false

theorem own : ownKnob Try.prog.godebug = none := by kernel_rfl
theorem laidOut : laidOutB Try.prog = true := by kernel_rfl

set_option maxRecDepth 100000 in
set_option maxHeartbeats 1600000 in
theorem walk (a0 : Option Addr) (len0 cap0 : Nat) (z0 : List Int) (a1 : Option Addr) (len1 cap1 : Nat) (z1 : List Sg) (w : World) (w0 : IsRow .u8 w a0 len0 cap0 z0) (w1 : IsSgs w a1 len1 cap1 z1) :
    Calls Try.prog 5 #[.slice a0 len0 cap0, .slice a1 len1 cap1] w fun e w' => e = .returned (.bool true) ∧ Below w.heap.size w w' := by
  obtain ⟨i0, hi, hz0, hz1, hz2⟩ := info_parts info_u8
  have HI := Lib.hid hi
  have HZ0 := Lib.hid hz0
  have HZ1 := Lib.hid hz1
  have HZ2 := Lib.hid hz2
  have HNIL := Lib.hid w0.nil
  obtain ⟨hs, hcap, hcm⟩ := w0.bys
  obtain ⟨hl1, hcap1, hcm1⟩ := w1.sgs
  have HZ := Lib.hid hs
  have HS := Lib.hid hl1
  clear w0 w1 hs hl1 hi hz0 hz1 hz2
  go_enter Try.func5, Try.ntmps5
  go_wp2_with fail
  refine (awake_any _).mono ?_
  rintro r v1 ⟨rfl, hb1⟩
  have HB1 := Lib.hid hb1
  clear hb1
  by_cases h500 : 500 < len0
  · have h1i : (500 : Int) < len0 := by omega
    go_wp2
    go_ret
    exact ⟨rfl, HB1.out⟩
  · have h1i : (len0 : Int) ≤ 500 := by omega
    by_cases h64 : 64 < len1
    · have h2i : (64 : Int) < len1 := by omega
      go_wp2
      go_ret
      exact ⟨rfl, HB1.out⟩
    · have h2i : (len1 : Int) ≤ 64 := by omega
      generalize z0.take len0 = zs at HZ
      generalize z1.take len1 = L at HS
      have HZL := Lib.hid HZ.out.1
      have HZB := Lib.hid HZ.out.2.1
      have HLL := Lib.hid HS.out.hl
      go_wp2_with (at_builtin; refine wpList_append_bys rfl _ _ 27 rfl w.heap.size 5 i0 (.int .u8 0) 1 Try.underlying27 HI.out HZ0.out HZ1.out HZ2.out rfl _ 0 [] rfl (World.ownsRow_nil _ _ _ _) a0 len0 cap0 w.heap.size zs rfl (HZ.out.below HB1.out) HNIL.out ?c1 ?c2 ?c3 ?_)
      case c1 => unfold maxLen; omega
      case c2 => omega
      case c3 => exact HB1.out.size
      intro v' w2 hown2 hg2
      have HB2 : Hid (Below w.heap.size w w2) := Lib.hid (HB1.out.grown hg2 HB1.out.size (fun q e => by cases e))
      have HO2 : Hid (w2.ownsRow w.heap.size 5 1 v' (len0 + 56 * 0) ((zs ++ flatE (L.take 0)).map (Value.int .u8))) := Lib.hid (by
        simpa [flatE] using hown2)
      clear hown2 hg2
      go_wp2
      go_loopw [6, 7] (fun v i wr => ∃ k : Nat, k ≤ len1 ∧ i = .int .i64 k ∧ wr.ownsRow w.heap.size 5 1 v (len0 + 56 * k) ((zs ++ flatE (L.take k)).map (Value.int .u8)) ∧ Below w.heap.size w wr) (fun _ i _ => len1 - (intOf i).toNat)
      case atStart => exact ⟨0, Nat.zero_le _, rfl, HO2.out, HB2.out⟩
      case round =>
        obtain ⟨k, hk, rfl, hown, hbel⟩ := hrel
        obtain ⟨ba, bc, rfl, hbc1, hbc2⟩ := own1_slice hown
        by_cases hlt : k < len1
        · obtain ⟨b, off, rfl, hbB, hcell⟩ := HS.out.hc (by omega)
          have hs1 := (hcell k hlt).below hbel hbB
          have hok := HS.out.okAt hlt
          have HST := Lib.hid (flatE_step (L := L) (k := k) (by have := HLL.out; omega))
          have hlti : (k : Int) < len1 := by omega
          have HOW := Lib.hid hown
          have HBE := Lib.hid hbel
          generalize L.getD k sg0 = s at hs1 hok HST
          have HP := Lib.hid (fun w1 => put_ok s w1 hok)
          have HEL := Lib.hid (encS_len s)
          generalize encS s = es at HP HEL HST
          clear hcell hown hbel hok
          obtain ⟨x0, x1, x2, x3, x4, x5, x6⟩ := hs1
          obtain ⟨ty, fl, ot, va, fi, me, al⟩ := s
          unfold Sg.val at HP
          simp only at x0 x1 x2 x3 x4 x5 x6 HP
          go_wp2_with fail
          refine (HP.out _).mono ?_
          rintro r w3 ⟨⟨u, rfl, g, c, rfl, _, _, hm⟩, hb3⟩
          rw [HEL.out] at hm ⊢
          have HM := Lib.hid hm
          have HO3 := Lib.hid (own_below HOW.out hb3)
          have HB3 := Lib.hid (HBE.out.trans (hb3.mono HBE.out.size))
          clear hm hb3
          go_wp2_with (at_builtin; refine wpList_append_bys rfl _ _ 27 rfl w.heap.size 5 i0 (.int .u8 0) 1 Try.underlying27 HI.out HZ0.out HZ1.out HZ2.out rfl _ (len0 + 56 * k) _ rfl HO3.out _ 56 c _ es rfl HM.out (fun h => by cases h) ?d1 ?d2 ?d3 ?_)
          case d1 => unfold maxLen; omega
          case d2 => omega
          case d3 => exact HB3.out.size
          intro v4 w4 hown4 hg4
          have hb4 := HB3.out.grown hg4 HB3.out.size (fun q e => (HO3.out.lt q e).1)
          have HO4 : Hid (w4.ownsRow w.heap.size 5 1 v4 (len0 + 56 * (k + 1)) ((zs ++ flatE (L.take (k + 1))).map (Value.int .u8))) := Lib.hid (by
            rw [HST.out, show len0 + 56 * (k + 1) = len0 + 56 * k + 56 by omega]; simpa only [List.map_append, List.append_assoc] using hown4)
          clear hown4 hg4
          go_wp2
          go_roundw
          case rel => exact ⟨k + 1, by omega, by go_num, HO4.out, hb4⟩
          case measure => (simp [intOf] <;> omega)
        · obtain rfl : k = len1 := by omega
          have htk : L.take k = L := List.take_of_length_le (by have := HLL.out; omega)
          rw [htk] at hown
          have HBY := Lib.hid (Bys.own (fun n hn => by
            rcases List.mem_append.1 hn with h | h
            · exact HZB.out n h
            · exact flatE_bd L n h) hown)
          have HBE := Lib.hid hbel
          have hT1 := stable_any wr.heap.size ba (len0 + 56 * k) bc (zs ++ flatE L) zs.length L.length wr HBY.out (Nat.le_refl _) hbc1 hbc2 (by omega) (by omega) (by have := HZL.out; omega)
          rw [tabR_back HS.out.hok (by have := HLL.out; omega), HZL.out, HLL.out] at hT1
          have HT1 := Lib.hid hT1
          have HT2 : Hid (∀ w1, Below wr.heap.size wr w1 → Calls Try.prog 16 #[.slice ba (len0 + 56 * k) bc, .int .u64 len0, .int .i64 (k + 1)] w1 fun r w' => (∃ v, r = .returned (.tuple #[v, .int .i64 (if k = 64 then 1 else 10)])) ∧ Below w1.heap.size w1 w') := Lib.hid (fun w1 h1 => by
            have h := stable_any wr.heap.size ba (len0 + 56 * k) bc (zs ++ flatE L) zs.length (L.length + 1) w1 (HBY.out.below h1) h1.size hbc1 hbc2 (by omega) (by omega) (by have := HZL.out; omega)
            rw [tabR_more (by have := HLL.out; omega), HZL.out, HLL.out] at h
            exact h.mono fun r w' q => ⟨q.1.imp fun v hv => hv.1, q.2⟩)
          clear hT1 hown hbel htk HBY
          go_wp2_with fail
          refine HT1.out.mono ?_
          rintro r w5 ⟨⟨u, rfl, ho⟩, hb5⟩
          obtain ⟨ta, tc, rfl, -, -⟩ := own7_slice ho
          have HTA := Lib.hid (Sgs.own HS.out.hok ho)
          have HW5 := Lib.hid hb5
          have HB5 := Lib.hid (HBE.out.trans (hb5.mono HBE.out.size))
          clear ho hb5
          go_wp2
          go_loopw [10] (fun i wq => ∃ j : Nat, j ≤ k ∧ i = .int .i64 j ∧ Below w5.heap.size w5 wq) (fun i _ => k - (intOf i).toNat)
          case atStart => exact ⟨0, Nat.zero_le _, rfl, Below.refl _ _⟩
          case round =>
            obtain ⟨j, hj, rfl, hbq⟩ := hrel
            by_cases hjk : j < k
            · obtain ⟨b, off, rfl, hbB, hcell⟩ := HS.out.hc (by omega)
              obtain ⟨b', off', rfl, hbB', hcell'⟩ := HTA.out.hc (by omega)
              have hs1 := (hcell j hjk).below (HB5.out.trans (hbq.mono HB5.out.size)) hbB
              have hs2 := (hcell' j hjk).below hbq hbB'
              have HBQ := Lib.hid hbq
              have hji : (j : Int) < k := by omega
              generalize L.getD j sg0 = s at hs1 hs2
              clear hcell hcell' hbq
              obtain ⟨x0, x1, x2, x3, x4, x5, x6⟩ := hs1
              obtain ⟨u0, u1, u2, u3, u4, u5, u6⟩ := hs2
              obtain ⟨ty, fl, ot, va, fi, me, al⟩ := s
              simp only at x0 x1 x2 x3 x4 x5 x6 u0 u1 u2 u3 u4 u5 u6
              go_wp2
              go_quiet (fail)
              go_wp2
              go_roundw
              case rel => exact ⟨j + 1, by omega, by go_num, below_drewN HBQ.out _⟩
              case measure => (simp [intOf] <;> omega)
            · obtain rfl : j = k := by omega
              have HX := Lib.hid (HW5.out.trans (hbq.mono HW5.out.size))
              have HBX := Lib.hid (HB5.out.trans (hbq.mono HB5.out.size))
              clear hbq
              by_cases h6 : j = 64
              · subst h6
                go_wp2_with fail
                refine (HT2.out _ HX.out).mono ?_
                rintro r w6 ⟨⟨u, rfl⟩, hb6⟩
                have HB6 := Lib.hid (HBX.out.trans (hb6.mono HBX.out.size))
                clear hb6
                go_wp2
                go_ret
                exact ⟨ret_bool (by simp), HB6.out⟩
              · rw [if_neg h6] at HT2
                go_wp2_with fail
                refine (HT2.out _ HX.out).mono ?_
                rintro r w6 ⟨⟨u, rfl⟩, hb6⟩
                have HB6 := Lib.hid (HBX.out.trans (hb6.mono HBX.out.size))
                clear hb6
                go_wp2
                go_ret
                exact ⟨ret_bool (by simp), HB6.out⟩

set_option maxRecDepth 100000 in
theorem lifted (os : Os) (started : os.Started) (H : Type) (enc : TypeId × Value → H) :
    ReturnsInHanded {} Try.checked os 5 .any (Rows.segsTablesSpec.pre6 enc Try.prog Try.f5 Rows.segsTablesRow.domain false) (Rows.segsTablesSpec.post enc Try.prog Try.f5 false true false false) := by
  refine returnsInHanded_of_change (C := Try.checked) own started (by kernel_rfl) Try.func5
    (ChangeSpec.witness6 (enc := enc) (C := Try.checked) false ⟨#[], #[.slice none 0 0, .slice none 0 0], []⟩ 8 (by kernel_rfl) (by kernel_rfl) (by kernel_rfl) (by kernel_rfl)) ?_
  intro W base args ds gs before hval0 hW hcnd _
  have hval : ∀ (j : Nat) t v, Try.f5.params[j]? = some t → args[j]? = some v → Value.okWide Try.prog W .any base t v := hval0
  have hW' := hW
  obtain ⟨p, q, hA0, hV, rfl, hfz, hnd⟩ := hW
  have hA : DataW.TrodAll enc Try.prog W 0 (fun _ => true) true Try.f5.params.toList args.toList ds p := hA0
  rw [Try.params5] at hA hval
  obtain ⟨v0, vs0, d0, ds0, p0, q0, hargs, rfl, rfl, h0, r0⟩ := trodAll_cons hA
  obtain ⟨v1, vs1, d1, ds1, p1, q1, rfl, rfl, rfl, h1, r1⟩ := trodAll_cons r0
  obtain ⟨rfl, rfl, rfl⟩ := trodAll_nil r1
  obtain rfl : args = #[v0, v1] := by cases args; simp_all
  obtain ⟨rfl, rfl⟩ := trodVars_none hV
  obtain ⟨a0, len0, cap0, rfl⟩ := okWide_slice Try.underlying27 (hval 0 27 v0 rfl rfl)
  have k0 := h0
  have lt0 : ∀ x ∈ p0, x.block < W.heap.size := by obtain ⟨m, hm⟩ := k0; exact DataW.trod_lt m _ _ _ hm
  obtain ⟨z0, w0⟩ : ∃ zs, IsRow .u8 W a0 len0 cap0 zs := by
    obtain ⟨fuel, hf⟩ := h0
    rcases open_ints Try.underlying27 Try.underlying5 (by kernel_rfl) hf with ⟨hcs, _⟩ | ⟨x, l, c, zs, hcs, _, hl, hm, hz, _, hcell, hwz⟩
    · simp [Value.cells] at hcs
      obtain ⟨rfl, rfl, rfl⟩ := hcs
      exact ⟨[], .inl ⟨rfl, rfl, rfl, rfl⟩⟩
    · simp [Value.cells] at hcs
      obtain ⟨rfl, rfl, rfl⟩ := hcs
      exact ⟨zs, .inr ⟨_, rfl, hl, hm, by simpa using hz, hcell, hwz⟩⟩
  obtain ⟨a1, len1, cap1, rfl⟩ := okWide_slice Try.underlying33 (hval 1 33 v1 rfl rfl)
  have k1 := h1
  have lt1 : ∀ x ∈ p1, x.block < W.heap.size := by obtain ⟨m, hm⟩ := k1; exact DataW.trod_lt m _ _ _ hm
  obtain ⟨z1, w1⟩ : ∃ zs, IsSgs W a1 len1 cap1 zs := by
    obtain ⟨fuel, hf⟩ := h1
    exact open_segs hf
  clear hA0 hval0
  refine (walk a0 len0 cap0 z0 a1 len1 cap1 z1 W w0 w1).mono fun e W' ⟨he, bel⟩ => ?_
  subst he
  exact ⟨_, rfl, _, _, _, [], _, [], hW', trodAll_mk1 (shut_bool Try.underlying4 _), (trodAll_cons_mk (Below.trod laidOut (by kernel_rfl) (of_decide_eq_true (by kernel_rfl)) k0 bel lt0) (trodAll_cons_mk (Below.trod laidOut (by kernel_rfl) (of_decide_eq_true (by kernel_rfl)) k1 bel lt1) trodAll_mk0)), rfl, bel.frame _, fun h => by cases h⟩

theorem over : Rows.segsTablesRow.holds Try.pinned (OpenSpec.ofChange Rows.segsTablesSpec) :=
  OpenClaim.holds_of_wide 5 Try.f5 rfl rfl rfl rfl rfl rfl rfl ⟨rfl, rfl, rfl, rfl, rfl⟩ rfl rfl rfl rfl rfl (by kernel_rfl) Try.func5 (by kernel_rfl)
    (of_decide_eq_true (by kernel_rfl)) (by unfold Func.isWrapper; first | (rw [if_pos (by decide +kernel)]; kernel_rfl) | (rw [if_neg (by decide +kernel)]; exact ⟨rfl, rfl⟩))
    (fun os started H enc _ => lifted os started H enc)

theorem proved : Rows.SegsTablesSaid := over
#print axioms proved
end Go.Proofs.Ytgomemienmchnaa.segsTables
