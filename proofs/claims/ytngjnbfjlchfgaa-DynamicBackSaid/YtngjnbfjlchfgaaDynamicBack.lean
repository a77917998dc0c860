/-
  What is proved here: DynamicBack: what is put is got, whatever stands behind.
  Conditions: none of our own; the law's row says what its input is.
-/
import Derived.Test.YtngjnbfjlchfgaaRows
import Derived.Test.YtngjnbfjlchfgaaDynEnd
import Derived.Test.YtngjnbfjlchfgaaArr
import Derived.Test.YtngjnbfjlchfgaaApp
import Derived.WalkKit
import Derived.ProofKit
import Derived.OpenShut
import Derived.ShutString
import Derived.ChangeOld
import Derived.Below
namespace Go.Proofs.Ytngjnbfjlchfgaa.dynamicBack
open Go.ChangeShapes Go.WideShapes Go.ChangeAt Go.RowKit
open Go.ChangeMaps (open_string shut_string)
set_option linter.unusedVariables false

theorem own : ownKnob Try.prog.godebug = none := by kernel_rfl
theorem laidOut : laidOutB Try.prog = true := by kernel_rfl

theorem fr63 (y : Nat → Value) : frameOf 63 y = #[y 0, y 1, y 2, y 3, y 4, y 5, y 6, y 7, y 8, y 9, y 10, y 11, y 12, y 13, y 14, y 15, y 16, y 17, y 18, y 19, y 20, y 21, y 22, y 23, y 24, y 25, y 26, y 27, y 28, y 29, y 30, y 31, y 32, y 33, y 34, y 35, y 36, y 37, y 38, y 39, y 40, y 41, y 42, y 43, y 44, y 45, y 46, y 47, y 48, y 49, y 50, y 51, y 52, y 53, y 54, y 55, y 56, y 57, y 58, y 59, y 60, y 61, y 62] := rfl
theorem nul_or {a : Option Addr} {len cap : Nat} {k : IntKind} {w : World} {zs : List Int} (h : IsRow k w a len cap zs) : a = none → cap = 0 := fun e => h.nil e
theorem getD_bd {V : List Int} (h : ∀ x ∈ V, 0 ≤ x ∧ x ≤ 18446744073709551615) (i : Nat) : 0 ≤ V.getD i 0 ∧ V.getD i 0 ≤ 18446744073709551615 := by
  by_cases hi : i < V.length
  · rw [List.getD_eq_getElem?_getD, List.getElem?_eq_getElem hi]
    exact h _ (List.getElem_mem hi)
  · rw [List.getD_eq_getElem?_getD, List.getElem?_eq_none (by omega)]
    decide
set_option maxRecDepth 100000 in
set_option maxHeartbeats 1600000 in
theorem walk (a0 : Option Addr) (len0 cap0 : Nat) (z0 : List Int) (z1 : List Int) (a2 : Option Addr) (len2 cap2 : Nat) (z2 : List Int) (w : World) (w0 : IsRow .u64 w a0 len0 cap0 z0) (w1 : IsArr .u64 7 z1) (w2 : IsRow .u8 w a2 len2 cap2 z2) :
    Calls Try.prog 6 #[.slice a0 len0 cap0, .agg (z1.map (Value.int .u64)).toArray, .slice a2 len2 cap2] w fun e w' => e = .returned (.bool true) ∧ Below w.heap.size w w' := by
  obtain ⟨hs, hcap, hcm⟩ := w0.nus
  obtain ⟨x0, x1, x2, x3, x4, x5, x6, rfl⟩ := list7 w1.1
  have hvb : ∀ x ∈ [x0, x1, x2, x3, x4, x5, x6], 0 ≤ x ∧ x ≤ 18446744073709551615 := fun x hx => bd_u64 (w1.2 x hx)
  obtain ⟨hs2, hcap2, hcm2⟩ := w2.bys
  generalize z2.take len2 = mr at hs2
  have HNIL := Lib.hid (nul_or w2)
  obtain ⟨i0, hi, hz0, hz1, hz2⟩ := info_parts info_u8
  have HI := Lib.hid hi
  have HZ0 := Lib.hid hz0
  have HZ1 := Lib.hid hz1
  have HZ2 := Lib.hid hz2
  have HS0 := Lib.hid hs
  have HS2 := Lib.hid hs2
  have HVB := Lib.hid hvb
  have HW0 : Hid (Below w.heap.size w (w.alloc (.cells #[.int .u64 x0, .int .u64 x1, .int .u64 x2, .int .u64 x3, .int .u64 x4, .int .u64 x5, .int .u64 x6] 24))) := Lib.hid ((Below.refl _ _).alloc (Nat.le_refl _) _)
  have HKA : Hid (∀ w', Below (w.alloc (.cells #[.int .u64 x0, .int .u64 x1, .int .u64 x2, .int .u64 x3, .int .u64 x4, .int .u64 x5, .int .u64 x6] 24)).heap.size (w.alloc (.cells #[.int .u64 x0, .int .u64 x1, .int .u64 x2, .int .u64 x3, .int .u64 x4, .int .u64 x5, .int .u64 x6] 24)) w' → Blk w' w.heap.size #[.int .u64 x0, .int .u64 x1, .int .u64 x2, .int .u64 x3, .int .u64 x4, .int .u64 x5, .int .u64 x6] 24) := Lib.hid (fun w' h => (Blk.new _ _ _).later h)
  have b0 := hvb x0 (by simp)
  have b1 := hvb x1 (by simp)
  have b2 := hvb x2 (by simp)
  have b3 := hvb x3 (by simp)
  have b4 := hvb x4 (by simp)
  have b5 := hvb x5 (by simp)
  have b6 := hvb x6 (by simp)
  have HPBD := Lib.hid (fun V => putBy_bd (z0.take len0) V)
  clear w0 w1 w2 hs hvb hs2 hi hz0 hz1 hz2
  simp only [List.map_cons, List.map_nil]
  go_enter Try.func6, Try.ntmps6
  go_wp2_with fail
  refine (awake_any _).mono ?_
  rintro r v1 ⟨rfl, hb1⟩
  have HB1 := Lib.hid (HW0.out.trans (hb1.mono HW0.out.size))
  obtain ⟨p0, p1, p2, p3, p4, p5, p6⟩ := k7 (HKA.out _ hb1)
  clear hb1
  by_cases h4k : 100 < len0
  · have h4i : (100 : Int) < len0 := by omega
    go_wp2
    go_ret
    exact ⟨rfl, HB1.out⟩
  · have h4i : (len0 : Int) ≤ 100 := by omega
    by_cases h5k : 500 < len2
    · have h5i : (500 : Int) < len2 := by omega
      go_wp2
      go_ret
      exact ⟨rfl, HB1.out⟩
    · have h5i : (len2 : Int) ≤ 500 := by omega
      by_cases z4 : x4 = 0
      · by_cases z6 : x6 = 0
        · subst z4
          subst z6
          have hv : ∀ x ∈ ([x0, x1, x2, 0, 0, 0, 0] : List Int), 0 ≤ x ∧ x ≤ 18446744073709551615 := by
            intro x hx
            simp only [List.mem_cons, List.not_mem_nil, or_false] at hx
            rcases hx with rfl | rfl | rfl | rfl | rfl | rfl | rfl <;> assumption
          have HVV := Lib.hid hv
          have HA1 : Hid (Below w.heap.size w (v1.alloc (.cells #[.slice a0 len0 cap0, .int .u64 x0, .int .u64 x1, .int .u64 x2, .int .u64 0, .int .u64 0, .int .u64 0, .int .u64 0] 27))) := Lib.hid (HB1.out.alloc HB1.out.size _)
          have HBK := Lib.hid (dyn_back (more := mr) (N := z0.take len0) HS0.out.bd (getD_bd hv))
          rw [vK_all rfl (by first | exact fun _ => rfl | exact fun h => absurd h z4) (by first | exact fun _ => rfl | exact fun h => absurd h z6)] at HBK
          have HLEN : Hid ((putBy (z0.take len0) [x0, x1, x2, 0, 0, 0, 0]).length ≤ 10000) := Lib.hid (by
            rw [putBy_len]; have h5 := seven_le ([x0, x1, x2, 0, 0, 0, 0]) 7; have h6 := HS0.out.hl; omega)
          have HPU := Lib.hid (put_parts w.heap.size a0 len0 cap0 (z0.take len0) x0 x1 x2 0 0 0 0 (v1.alloc (.cells #[.slice a0 len0 cap0, .int .u64 x0, .int .u64 x1, .int .u64 x2, .int .u64 0, .int .u64 0, .int .u64 0, .int .u64 0] 27)) (HS0.out.below HA1.out) hv HA1.out.size (by omega))
          have HPZ := Lib.hid (HPBD.out [x0, x1, x2, 0, 0, 0, 0])
          generalize putBy (z0.take len0) [x0, x1, x2, 0, 0, 0, 0] = zs at HBK HPU HPZ HLEN
          go_wp2_with fail
          refine HPU.out.mono ?_
          rintro r v2 ⟨⟨u, rfl, ho⟩, hb2⟩
          have HO := Lib.hid ho
          have HB2 := Lib.hid (HA1.out.trans (hb2.mono HA1.out.size))
          have HS22 := Lib.hid (HS2.out.below HB2.out)
          have hlen := HLEN.out
          have HSA := Lib.hid hb2
          clear ho hb2 HPU hv
          go_wp2_with (at_builtin; refine wpList_append_bys rfl _ _ 28 rfl (v1.alloc (.cells #[.slice a0 len0 cap0, .int .u64 x0, .int .u64 x1, .int .u64 x2, .int .u64 0, .int .u64 0, .int .u64 0, .int .u64 0] 27)).heap.size 5 i0 (.int .u8 0) 1 Try.underlying28 HI.out HZ0.out HZ1.out HZ2.out rfl _ zs.length _ rfl HO.out a2 len2 cap2 _ mr rfl HS22.out HNIL.out ?c1 ?c2 ?c3 ?_)
          case c1 => unfold maxLen; omega
          case c2 => omega
          case c3 => exact HSA.out.size
          intro u3 v3 ho3 hg3
          rw [← List.map_append] at ho3
          obtain ⟨g3, c3, rfl, hc3⟩ := own_slice_cap ho3
          have hzl : (zs ++ mr).length = zs.length + len2 := by rw [List.length_append, HS2.out.1]
          have hby3 : Bys v3 v3.heap.size g3 (zs.length + len2) (zs ++ mr) := Bys.own (by
            intro n hn
            rcases List.mem_append.1 hn with hn | hn
            · exact HPZ.out n hn
            · exact HS2.out.2.1 n hn) ho3
          have HG1 := Lib.hid (get5_any _ _ _ c3 _ v3 hby3 (Nat.le_refl _) (by omega) hc3.1 hc3.2)
          rw [HBK.out] at HG1
          have HB3 : Hid (Below (v1.alloc (.cells #[.slice a0 len0 cap0, .int .u64 x0, .int .u64 x1, .int .u64 x2, .int .u64 0, .int .u64 0, .int .u64 0, .int .u64 0] 27)).heap.size (v1.alloc (.cells #[.slice a0 len0 cap0, .int .u64 x0, .int .u64 x1, .int .u64 x2, .int .u64 0, .int .u64 0, .int .u64 0, .int .u64 0] 27)) v3) := Lib.hid (HSA.out.grown hg3 HSA.out.size (fun q e => (HO.out.lt q e).1))
          clear ho3 hg3 hby3 hzl hlen HO HS22 HB2 HSA
          go_wp2_with fail
          refine HG1.out.mono ?_
          rintro r v4 ⟨⟨na, nn, nc, rfl, hnu, hnn, -, -⟩, hb4⟩
          unfold infoV
          simp only [List.getD_cons_zero, List.getD_cons_succ]
          obtain rfl : len0 = nn := by have h5 := hnu.hl; have h6 := HS0.out.hl; simp only at h5; omega
          have HB4 : Hid (Below (v1.alloc (.cells #[.slice a0 len0 cap0, .int .u64 x0, .int .u64 x1, .int .u64 x2, .int .u64 0, .int .u64 0, .int .u64 0, .int .u64 0] 27)).heap.size (v1.alloc (.cells #[.slice a0 len0 cap0, .int .u64 x0, .int .u64 x1, .int .u64 x2, .int .u64 0, .int .u64 0, .int .u64 0, .int .u64 0] 27)) (v4.alloc (.cells #[.slice na len0 nc, .int .u64 x0, .int .u64 x1, .int .u64 x2, .int .u64 0, .int .u64 0, .int .u64 0, .int .u64 0] 27))) := Lib.hid (by
            have h := HB3.out.trans (hb4.mono HB3.out.size)
            exact h.alloc h.size _)
          have HA : Hid (Below w.heap.size w (v4.alloc (.cells #[.slice na len0 nc, .int .u64 x0, .int .u64 x1, .int .u64 x2, .int .u64 0, .int .u64 0, .int .u64 0, .int .u64 0] 27))) := Lib.hid (HA1.out.trans (HB4.out.mono HA1.out.size))
          have HBX : Hid (∀ w', Below (v4.alloc (.cells #[.slice na len0 nc, .int .u64 x0, .int .u64 x1, .int .u64 x2, .int .u64 0, .int .u64 0, .int .u64 0, .int .u64 0] 27)).heap.size (v4.alloc (.cells #[.slice na len0 nc, .int .u64 x0, .int .u64 x1, .int .u64 x2, .int .u64 0, .int .u64 0, .int .u64 0, .int .u64 0] 27)) w' → Blk w' v1.heap.size #[.slice a0 len0 cap0, .int .u64 x0, .int .u64 x1, .int .u64 x2, .int .u64 0, .int .u64 0, .int .u64 0, .int .u64 0] 27 ∧ Blk w' v4.heap.size #[.slice na len0 nc, .int .u64 x0, .int .u64 x1, .int .u64 x2, .int .u64 0, .int .u64 0, .int .u64 0, .int .u64 0] 27 ∧ Nus w' w'.heap.size a0 len0 (z0.take len0) ∧ Nus w' w'.heap.size na len0 (z0.take len0)) := Lib.hid (fun w' h => by
            have h1 := HA.out.trans (h.mono HA.out.size)
            have h2 : Below v4.heap.size v4 (v4.alloc (.cells #[.slice na len0 nc, .int .u64 x0, .int .u64 x1, .int .u64 x2, .int .u64 0, .int .u64 0, .int .u64 0, .int .u64 0] 27)) := (Below.refl _ _).alloc (Nat.le_refl _) _
            have h3 := h2.trans (h.mono h2.size)
            exact ⟨(Blk.new _ _ _).later (HB4.out.trans (h.mono HB4.out.size)), (Blk.new _ _ _).later h, (HS0.out.below h1).more h1.size, (hnu.below h3).more h3.size⟩)
          have HM1 := Lib.hid (fun w1 => model_parts a0 len0 cap0 x0 x1 x2 0 0 0 0 w1 HVV.out)
          have HM2 := Lib.hid (fun w1 => model_parts na len0 nc x0 x1 x2 0 0 0 0 w1 HVV.out)
          clear hb4 hnu HG1
          go_wp2
          refine wp_region_facts (by kernel_rfl) Stays Stays.refl Stays.trans 63 rfl [54, 55, 56, 57, 58, 59, 60, 61, 62, 6] (factsOf [Is (.int .i64 0), Is (.bool true), Is (.bool true), Is (.agg #[.slice a0 len0 cap0, .int .u64 x0, .int .u64 x1, .int .u64 x2, .int .u64 0, .int .u64 0, .int .u64 0, .int .u64 0]), Mdl a0 len0 cap0 [x0, x1, x2, 0, 0, 0, 0], Is (.agg #[.slice na len0 nc, .int .u64 x0, .int .u64 x1, .int .u64 x2, .int .u64 0, .int .u64 0, .int .u64 0, .int .u64 0]), Mdl na len0 nc [x0, x1, x2, 0, 0, 0, 0], Is (.bool true), Is (.bool true), Is (.bool true)]) (by kernel_rfl) (factsOf_mono (mono_cons (Is.mono _) (mono_cons (Is.mono _) (mono_cons (Is.mono _) (mono_cons (Is.mono _) (mono_cons (Mdl.mono _ _ _ _) (mono_cons (Is.mono _) (mono_cons (Mdl.mono _ _ _ _) (mono_cons (Is.mono _) (mono_cons (Is.mono _) (mono_cons (Is.mono _) mono_nil))))))))))) ?steps54 ?fin54
          case fin54 =>
            intro v w2 hb2 hF
            have hlast : v 9 = .bool true := hF 9 (by decide)
            have HBF : Hid (Below w.heap.size w w2) := Lib.hid (HA.out.drew.trans (Below.mono hb2 HA.out.size))
            clear hb2 hF
            simp only [putAll, List.set_cons_succ, List.set_cons_zero, Nat.reduceAdd, hlast]
            go_wp2
            go_ret
            exact ⟨rfl, HBF.out⟩
          case steps54 =>
            refine ⟨?_, ?_, ?_, ?_, ?_, ?_, ?_, ?_, ?_, ?_, trivial⟩
            all_goals intro y w2 hb hy0 hp0
            all_goals have hy := Lib.hid hy0
            all_goals have hp := Lib.hid hp0
            all_goals have hst := Lib.hid hb
            all_goals clear hy0 hp0 hb
            · have e1 : y 10 = .int .i64 0 := hy.out 10 (by decide)
              refine StepG.plain rfl fun K Q hK => ?_
              simp only [fr63] at hK ⊢
              rw [e1] at hK ⊢
              go_simp
              exact hK _ _ ⟨Stays.refl _, by first | rfl | simp [Is] | (simp [factsOf, Is]; done)⟩
            · have e1 : y 54 = .int .i64 0 := hp.out 0 (by decide)
              refine StepG.plain rfl fun K Q hK => ?_
              simp only [fr63] at hK ⊢
              rw [e1] at hK ⊢
              go_simp
              exact hK _ _ ⟨Stays.refl _, by first | rfl | simp [Is] | (simp [factsOf, Is]; done)⟩
            · have e1 : y 55 = .bool true := hp.out 1 (by decide)
              refine StepG.plain rfl fun K Q hK => ?_
              simp only [fr63] at hK ⊢
              rw [e1] at hK ⊢
              go_simp
              exact hK _ _ ⟨Stays.refl _, by first | rfl | simp [Is] | (simp [factsOf, Is]; done)⟩
            · have e1 : y 8 = .pointer (some ⟨v1.heap.size, 0, none⟩) := hy.out 8 (by decide)
              obtain ⟨q0, q1, q2, q3, q4, q5, q6, q7⟩ := c8 (HBX.out _ ((Below.refl _ _).drew.trans hst.out)).1
              refine StepG.yes (b := true) (t := 56) rfl rfl rfl (by decide) (hp.out 2 (by decide)) fun K Q hK => ?_
              simp only [fr63] at hK ⊢
              rw [e1] at hK ⊢
              go_simp
              exact hK _ _ ⟨Stays.refl _, by first | rfl | simp [Is] | (simp [factsOf, Is]; done)⟩
            · have e1 : y 57 = .agg #[.slice a0 len0 cap0, .int .u64 x0, .int .u64 x1, .int .u64 x2, .int .u64 0, .int .u64 0, .int .u64 0, .int .u64 0] := hp.out 3 (by decide)
              refine StepG.yes (b := true) (t := 56) rfl rfl rfl (by decide) (hp.out 2 (by decide)) fun K Q hK => ?_
              simp only [fr63] at hK ⊢
              rw [e1] at hK ⊢
              go_simp
              go_at_call 12
              refine (HM1.out _).mono ?_
              rintro r w3 ⟨⟨u, rfl, hm⟩, hb3⟩
              exact hK _ w3 ⟨hb3, hm⟩
            · have e1 : y 9 = .pointer (some ⟨v4.heap.size, 0, none⟩) := hy.out 9 (by decide)
              obtain ⟨q0, q1, q2, q3, q4, q5, q6, q7⟩ := c8 (HBX.out _ ((Below.refl _ _).drew.trans hst.out)).2.1
              refine StepG.yes (b := true) (t := 56) rfl rfl rfl (by decide) (hp.out 2 (by decide)) fun K Q hK => ?_
              simp only [fr63] at hK ⊢
              rw [e1] at hK ⊢
              go_simp
              exact hK _ _ ⟨Stays.refl _, by first | rfl | simp [Is] | (simp [factsOf, Is]; done)⟩
            · have e1 : y 59 = .agg #[.slice na len0 nc, .int .u64 x0, .int .u64 x1, .int .u64 x2, .int .u64 0, .int .u64 0, .int .u64 0, .int .u64 0] := hp.out 5 (by decide)
              refine StepG.yes (b := true) (t := 56) rfl rfl rfl (by decide) (hp.out 2 (by decide)) fun K Q hK => ?_
              simp only [fr63] at hK ⊢
              rw [e1] at hK ⊢
              go_simp
              go_at_call 12
              refine (HM2.out _).mono ?_
              rintro r w3 ⟨⟨u, rfl, hm⟩, hb3⟩
              exact hK _ w3 ⟨hb3, hm⟩
            · obtain ⟨gm, e1, hnm⟩ : Mdl a0 len0 cap0 [x0, x1, x2, 0, 0, 0, 0] (y 58) w2 := hp.out 4 (by decide)
              obtain ⟨gk, e2, hnk⟩ : Mdl na len0 nc [x0, x1, x2, 0, 0, 0, 0] (y 60) w2 := hp.out 6 (by decide)
              obtain ⟨-, -, n1, n2⟩ := (HBX.out _ ((Below.refl _ _).drew.trans hst.out))
              refine StepG.yes (b := true) (t := 56) rfl rfl rfl (by decide) (hp.out 2 (by decide)) fun K Q hK => ?_
              simp only [fr63] at hK ⊢
              rw [e1, e2] at hK ⊢
              go_simp
              go_at_call 15
              refine (same_yes _ _ _ _ _ _ _ _ _ _ _ _ _ n1 n2 hnm hnk (Nat.le_refl _) hnn).mono ?_
              rintro r w3 ⟨rfl, hb3⟩
              exact hK _ w3 ⟨hb3, rfl⟩
            · have e1 : y 56 = .bool true := hp.out 2 (by decide)
              have e2 : y 61 = .bool true := hp.out 7 (by decide)
              refine StepG.plain rfl fun K Q hK => ?_
              simp only [fr63] at hK ⊢
              rw [e1, e2] at hK ⊢
              go_simp
              exact hK _ _ ⟨Stays.refl _, by first | rfl | simp [Is] | (simp [factsOf, Is]; done)⟩
            · have e1 : y 62 = .bool true := hp.out 8 (by decide)
              refine StepG.plain rfl fun K Q hK => ?_
              simp only [fr63] at hK ⊢
              rw [e1] at hK ⊢
              go_simp
              exact hK _ _ ⟨Stays.refl _, by first | rfl | simp [Is] | (simp [factsOf, Is]; done)⟩
        · subst z4
          have z6b : (x6 == 0) = false := by simpa using z6
          have hv : ∀ x ∈ ([x0, x1, x2, 0, 0, x5, x6] : List Int), 0 ≤ x ∧ x ≤ 18446744073709551615 := by
            intro x hx
            simp only [List.mem_cons, List.not_mem_nil, or_false] at hx
            rcases hx with rfl | rfl | rfl | rfl | rfl | rfl | rfl <;> assumption
          have HVV := Lib.hid hv
          have HA1 : Hid (Below w.heap.size w (v1.alloc (.cells #[.slice a0 len0 cap0, .int .u64 x0, .int .u64 x1, .int .u64 x2, .int .u64 0, .int .u64 0, .int .u64 x5, .int .u64 x6] 27))) := Lib.hid (HB1.out.alloc HB1.out.size _)
          have HBK := Lib.hid (dyn_back (more := mr) (N := z0.take len0) HS0.out.bd (getD_bd hv))
          rw [vK_all rfl (by first | exact fun _ => rfl | exact fun h => absurd h z4) (by first | exact fun _ => rfl | exact fun h => absurd h z6)] at HBK
          have HLEN : Hid ((putBy (z0.take len0) [x0, x1, x2, 0, 0, x5, x6]).length ≤ 10000) := Lib.hid (by
            rw [putBy_len]; have h5 := seven_le ([x0, x1, x2, 0, 0, x5, x6]) 7; have h6 := HS0.out.hl; omega)
          have HPU := Lib.hid (put_parts w.heap.size a0 len0 cap0 (z0.take len0) x0 x1 x2 0 0 x5 x6 (v1.alloc (.cells #[.slice a0 len0 cap0, .int .u64 x0, .int .u64 x1, .int .u64 x2, .int .u64 0, .int .u64 0, .int .u64 x5, .int .u64 x6] 27)) (HS0.out.below HA1.out) hv HA1.out.size (by omega))
          have HPZ := Lib.hid (HPBD.out [x0, x1, x2, 0, 0, x5, x6])
          generalize putBy (z0.take len0) [x0, x1, x2, 0, 0, x5, x6] = zs at HBK HPU HPZ HLEN
          go_wp2_with fail
          refine HPU.out.mono ?_
          rintro r v2 ⟨⟨u, rfl, ho⟩, hb2⟩
          have HO := Lib.hid ho
          have HB2 := Lib.hid (HA1.out.trans (hb2.mono HA1.out.size))
          have HS22 := Lib.hid (HS2.out.below HB2.out)
          have hlen := HLEN.out
          have HSA := Lib.hid hb2
          clear ho hb2 HPU hv
          go_wp2_with (at_builtin; refine wpList_append_bys rfl _ _ 28 rfl (v1.alloc (.cells #[.slice a0 len0 cap0, .int .u64 x0, .int .u64 x1, .int .u64 x2, .int .u64 0, .int .u64 0, .int .u64 x5, .int .u64 x6] 27)).heap.size 5 i0 (.int .u8 0) 1 Try.underlying28 HI.out HZ0.out HZ1.out HZ2.out rfl _ zs.length _ rfl HO.out a2 len2 cap2 _ mr rfl HS22.out HNIL.out ?c1 ?c2 ?c3 ?_)
          case c1 => unfold maxLen; omega
          case c2 => omega
          case c3 => exact HSA.out.size
          intro u3 v3 ho3 hg3
          rw [← List.map_append] at ho3
          obtain ⟨g3, c3, rfl, hc3⟩ := own_slice_cap ho3
          have hzl : (zs ++ mr).length = zs.length + len2 := by rw [List.length_append, HS2.out.1]
          have hby3 : Bys v3 v3.heap.size g3 (zs.length + len2) (zs ++ mr) := Bys.own (by
            intro n hn
            rcases List.mem_append.1 hn with hn | hn
            · exact HPZ.out n hn
            · exact HS2.out.2.1 n hn) ho3
          have HG1 := Lib.hid (get5_any _ _ _ c3 _ v3 hby3 (Nat.le_refl _) (by omega) hc3.1 hc3.2)
          rw [HBK.out] at HG1
          have HB3 : Hid (Below (v1.alloc (.cells #[.slice a0 len0 cap0, .int .u64 x0, .int .u64 x1, .int .u64 x2, .int .u64 0, .int .u64 0, .int .u64 x5, .int .u64 x6] 27)).heap.size (v1.alloc (.cells #[.slice a0 len0 cap0, .int .u64 x0, .int .u64 x1, .int .u64 x2, .int .u64 0, .int .u64 0, .int .u64 x5, .int .u64 x6] 27)) v3) := Lib.hid (HSA.out.grown hg3 HSA.out.size (fun q e => (HO.out.lt q e).1))
          clear ho3 hg3 hby3 hzl hlen HO HS22 HB2 HSA
          go_wp2_with fail
          refine HG1.out.mono ?_
          rintro r v4 ⟨⟨na, nn, nc, rfl, hnu, hnn, -, -⟩, hb4⟩
          unfold infoV
          simp only [List.getD_cons_zero, List.getD_cons_succ]
          obtain rfl : len0 = nn := by have h5 := hnu.hl; have h6 := HS0.out.hl; simp only at h5; omega
          have HB4 : Hid (Below (v1.alloc (.cells #[.slice a0 len0 cap0, .int .u64 x0, .int .u64 x1, .int .u64 x2, .int .u64 0, .int .u64 0, .int .u64 x5, .int .u64 x6] 27)).heap.size (v1.alloc (.cells #[.slice a0 len0 cap0, .int .u64 x0, .int .u64 x1, .int .u64 x2, .int .u64 0, .int .u64 0, .int .u64 x5, .int .u64 x6] 27)) (v4.alloc (.cells #[.slice na len0 nc, .int .u64 x0, .int .u64 x1, .int .u64 x2, .int .u64 0, .int .u64 0, .int .u64 x5, .int .u64 x6] 27))) := Lib.hid (by
            have h := HB3.out.trans (hb4.mono HB3.out.size)
            exact h.alloc h.size _)
          have HA : Hid (Below w.heap.size w (v4.alloc (.cells #[.slice na len0 nc, .int .u64 x0, .int .u64 x1, .int .u64 x2, .int .u64 0, .int .u64 0, .int .u64 x5, .int .u64 x6] 27))) := Lib.hid (HA1.out.trans (HB4.out.mono HA1.out.size))
          have HBX : Hid (∀ w', Below (v4.alloc (.cells #[.slice na len0 nc, .int .u64 x0, .int .u64 x1, .int .u64 x2, .int .u64 0, .int .u64 0, .int .u64 x5, .int .u64 x6] 27)).heap.size (v4.alloc (.cells #[.slice na len0 nc, .int .u64 x0, .int .u64 x1, .int .u64 x2, .int .u64 0, .int .u64 0, .int .u64 x5, .int .u64 x6] 27)) w' → Blk w' v1.heap.size #[.slice a0 len0 cap0, .int .u64 x0, .int .u64 x1, .int .u64 x2, .int .u64 0, .int .u64 0, .int .u64 x5, .int .u64 x6] 27 ∧ Blk w' v4.heap.size #[.slice na len0 nc, .int .u64 x0, .int .u64 x1, .int .u64 x2, .int .u64 0, .int .u64 0, .int .u64 x5, .int .u64 x6] 27 ∧ Nus w' w'.heap.size a0 len0 (z0.take len0) ∧ Nus w' w'.heap.size na len0 (z0.take len0)) := Lib.hid (fun w' h => by
            have h1 := HA.out.trans (h.mono HA.out.size)
            have h2 : Below v4.heap.size v4 (v4.alloc (.cells #[.slice na len0 nc, .int .u64 x0, .int .u64 x1, .int .u64 x2, .int .u64 0, .int .u64 0, .int .u64 x5, .int .u64 x6] 27)) := (Below.refl _ _).alloc (Nat.le_refl _) _
            have h3 := h2.trans (h.mono h2.size)
            exact ⟨(Blk.new _ _ _).later (HB4.out.trans (h.mono HB4.out.size)), (Blk.new _ _ _).later h, (HS0.out.below h1).more h1.size, (hnu.below h3).more h3.size⟩)
          have HM1 := Lib.hid (fun w1 => model_parts a0 len0 cap0 x0 x1 x2 0 0 x5 x6 w1 HVV.out)
          have HM2 := Lib.hid (fun w1 => model_parts na len0 nc x0 x1 x2 0 0 x5 x6 w1 HVV.out)
          clear hb4 hnu HG1
          go_wp2
          refine wp_region_facts (by kernel_rfl) Stays Stays.refl Stays.trans 63 rfl [54, 55, 56, 57, 58, 59, 60, 61, 62, 6] (factsOf [Is (.int .i64 0), Is (.bool true), Is (.bool true), Is (.agg #[.slice a0 len0 cap0, .int .u64 x0, .int .u64 x1, .int .u64 x2, .int .u64 0, .int .u64 0, .int .u64 x5, .int .u64 x6]), Mdl a0 len0 cap0 [x0, x1, x2, 0, 0, x5, x6], Is (.agg #[.slice na len0 nc, .int .u64 x0, .int .u64 x1, .int .u64 x2, .int .u64 0, .int .u64 0, .int .u64 x5, .int .u64 x6]), Mdl na len0 nc [x0, x1, x2, 0, 0, x5, x6], Is (.bool true), Is (.bool true), Is (.bool true)]) (by kernel_rfl) (factsOf_mono (mono_cons (Is.mono _) (mono_cons (Is.mono _) (mono_cons (Is.mono _) (mono_cons (Is.mono _) (mono_cons (Mdl.mono _ _ _ _) (mono_cons (Is.mono _) (mono_cons (Mdl.mono _ _ _ _) (mono_cons (Is.mono _) (mono_cons (Is.mono _) (mono_cons (Is.mono _) mono_nil))))))))))) ?steps54 ?fin54
          case fin54 =>
            intro v w2 hb2 hF
            have hlast : v 9 = .bool true := hF 9 (by decide)
            have HBF : Hid (Below w.heap.size w w2) := Lib.hid (HA.out.drew.trans (Below.mono hb2 HA.out.size))
            clear hb2 hF
            simp only [putAll, List.set_cons_succ, List.set_cons_zero, Nat.reduceAdd, hlast]
            go_wp2
            go_ret
            exact ⟨rfl, HBF.out⟩
          case steps54 =>
            refine ⟨?_, ?_, ?_, ?_, ?_, ?_, ?_, ?_, ?_, ?_, trivial⟩
            all_goals intro y w2 hb hy0 hp0
            all_goals have hy := Lib.hid hy0
            all_goals have hp := Lib.hid hp0
            all_goals have hst := Lib.hid hb
            all_goals clear hy0 hp0 hb
            · have e1 : y 10 = .int .i64 0 := hy.out 10 (by decide)
              refine StepG.plain rfl fun K Q hK => ?_
              simp only [fr63] at hK ⊢
              rw [e1] at hK ⊢
              go_simp
              exact hK _ _ ⟨Stays.refl _, by first | rfl | simp [Is] | (simp [factsOf, Is]; done)⟩
            · have e1 : y 54 = .int .i64 0 := hp.out 0 (by decide)
              refine StepG.plain rfl fun K Q hK => ?_
              simp only [fr63] at hK ⊢
              rw [e1] at hK ⊢
              go_simp
              exact hK _ _ ⟨Stays.refl _, by first | rfl | simp [Is] | (simp [factsOf, Is]; done)⟩
            · have e1 : y 55 = .bool true := hp.out 1 (by decide)
              refine StepG.plain rfl fun K Q hK => ?_
              simp only [fr63] at hK ⊢
              rw [e1] at hK ⊢
              go_simp
              exact hK _ _ ⟨Stays.refl _, by first | rfl | simp [Is] | (simp [factsOf, Is]; done)⟩
            · have e1 : y 8 = .pointer (some ⟨v1.heap.size, 0, none⟩) := hy.out 8 (by decide)
              obtain ⟨q0, q1, q2, q3, q4, q5, q6, q7⟩ := c8 (HBX.out _ ((Below.refl _ _).drew.trans hst.out)).1
              refine StepG.yes (b := true) (t := 56) rfl rfl rfl (by decide) (hp.out 2 (by decide)) fun K Q hK => ?_
              simp only [fr63] at hK ⊢
              rw [e1] at hK ⊢
              go_simp
              exact hK _ _ ⟨Stays.refl _, by first | rfl | simp [Is] | (simp [factsOf, Is]; done)⟩
            · have e1 : y 57 = .agg #[.slice a0 len0 cap0, .int .u64 x0, .int .u64 x1, .int .u64 x2, .int .u64 0, .int .u64 0, .int .u64 x5, .int .u64 x6] := hp.out 3 (by decide)
              refine StepG.yes (b := true) (t := 56) rfl rfl rfl (by decide) (hp.out 2 (by decide)) fun K Q hK => ?_
              simp only [fr63] at hK ⊢
              rw [e1] at hK ⊢
              go_simp
              go_at_call 12
              refine (HM1.out _).mono ?_
              rintro r w3 ⟨⟨u, rfl, hm⟩, hb3⟩
              exact hK _ w3 ⟨hb3, hm⟩
            · have e1 : y 9 = .pointer (some ⟨v4.heap.size, 0, none⟩) := hy.out 9 (by decide)
              obtain ⟨q0, q1, q2, q3, q4, q5, q6, q7⟩ := c8 (HBX.out _ ((Below.refl _ _).drew.trans hst.out)).2.1
              refine StepG.yes (b := true) (t := 56) rfl rfl rfl (by decide) (hp.out 2 (by decide)) fun K Q hK => ?_
              simp only [fr63] at hK ⊢
              rw [e1] at hK ⊢
              go_simp
              exact hK _ _ ⟨Stays.refl _, by first | rfl | simp [Is] | (simp [factsOf, Is]; done)⟩
            · have e1 : y 59 = .agg #[.slice na len0 nc, .int .u64 x0, .int .u64 x1, .int .u64 x2, .int .u64 0, .int .u64 0, .int .u64 x5, .int .u64 x6] := hp.out 5 (by decide)
              refine StepG.yes (b := true) (t := 56) rfl rfl rfl (by decide) (hp.out 2 (by decide)) fun K Q hK => ?_
              simp only [fr63] at hK ⊢
              rw [e1] at hK ⊢
              go_simp
              go_at_call 12
              refine (HM2.out _).mono ?_
              rintro r w3 ⟨⟨u, rfl, hm⟩, hb3⟩
              exact hK _ w3 ⟨hb3, hm⟩
            · obtain ⟨gm, e1, hnm⟩ : Mdl a0 len0 cap0 [x0, x1, x2, 0, 0, x5, x6] (y 58) w2 := hp.out 4 (by decide)
              obtain ⟨gk, e2, hnk⟩ : Mdl na len0 nc [x0, x1, x2, 0, 0, x5, x6] (y 60) w2 := hp.out 6 (by decide)
              obtain ⟨-, -, n1, n2⟩ := (HBX.out _ ((Below.refl _ _).drew.trans hst.out))
              refine StepG.yes (b := true) (t := 56) rfl rfl rfl (by decide) (hp.out 2 (by decide)) fun K Q hK => ?_
              simp only [fr63] at hK ⊢
              rw [e1, e2] at hK ⊢
              go_simp
              go_at_call 15
              refine (same_yes _ _ _ _ _ _ _ _ _ _ _ _ _ n1 n2 hnm hnk (Nat.le_refl _) hnn).mono ?_
              rintro r w3 ⟨rfl, hb3⟩
              exact hK _ w3 ⟨hb3, rfl⟩
            · have e1 : y 56 = .bool true := hp.out 2 (by decide)
              have e2 : y 61 = .bool true := hp.out 7 (by decide)
              refine StepG.plain rfl fun K Q hK => ?_
              simp only [fr63] at hK ⊢
              rw [e1, e2] at hK ⊢
              go_simp
              exact hK _ _ ⟨Stays.refl _, by first | rfl | simp [Is] | (simp [factsOf, Is]; done)⟩
            · have e1 : y 62 = .bool true := hp.out 8 (by decide)
              refine StepG.plain rfl fun K Q hK => ?_
              simp only [fr63] at hK ⊢
              rw [e1] at hK ⊢
              go_simp
              exact hK _ _ ⟨Stays.refl _, by first | rfl | simp [Is] | (simp [factsOf, Is]; done)⟩
      · by_cases z6 : x6 = 0
        · have z4b : (x4 == 0) = false := by simpa using z4
          subst z6
          have hv : ∀ x ∈ ([x0, x1, x2, x3, x4, 0, 0] : List Int), 0 ≤ x ∧ x ≤ 18446744073709551615 := by
            intro x hx
            simp only [List.mem_cons, List.not_mem_nil, or_false] at hx
            rcases hx with rfl | rfl | rfl | rfl | rfl | rfl | rfl <;> assumption
          have HVV := Lib.hid hv
          have HA1 : Hid (Below w.heap.size w (v1.alloc (.cells #[.slice a0 len0 cap0, .int .u64 x0, .int .u64 x1, .int .u64 x2, .int .u64 x3, .int .u64 x4, .int .u64 0, .int .u64 0] 27))) := Lib.hid (HB1.out.alloc HB1.out.size _)
          have HBK := Lib.hid (dyn_back (more := mr) (N := z0.take len0) HS0.out.bd (getD_bd hv))
          rw [vK_all rfl (by first | exact fun _ => rfl | exact fun h => absurd h z4) (by first | exact fun _ => rfl | exact fun h => absurd h z6)] at HBK
          have HLEN : Hid ((putBy (z0.take len0) [x0, x1, x2, x3, x4, 0, 0]).length ≤ 10000) := Lib.hid (by
            rw [putBy_len]; have h5 := seven_le ([x0, x1, x2, x3, x4, 0, 0]) 7; have h6 := HS0.out.hl; omega)
          have HPU := Lib.hid (put_parts w.heap.size a0 len0 cap0 (z0.take len0) x0 x1 x2 x3 x4 0 0 (v1.alloc (.cells #[.slice a0 len0 cap0, .int .u64 x0, .int .u64 x1, .int .u64 x2, .int .u64 x3, .int .u64 x4, .int .u64 0, .int .u64 0] 27)) (HS0.out.below HA1.out) hv HA1.out.size (by omega))
          have HPZ := Lib.hid (HPBD.out [x0, x1, x2, x3, x4, 0, 0])
          generalize putBy (z0.take len0) [x0, x1, x2, x3, x4, 0, 0] = zs at HBK HPU HPZ HLEN
          go_wp2_with fail
          refine HPU.out.mono ?_
          rintro r v2 ⟨⟨u, rfl, ho⟩, hb2⟩
          have HO := Lib.hid ho
          have HB2 := Lib.hid (HA1.out.trans (hb2.mono HA1.out.size))
          have HS22 := Lib.hid (HS2.out.below HB2.out)
          have hlen := HLEN.out
          have HSA := Lib.hid hb2
          clear ho hb2 HPU hv
          go_wp2_with (at_builtin; refine wpList_append_bys rfl _ _ 28 rfl (v1.alloc (.cells #[.slice a0 len0 cap0, .int .u64 x0, .int .u64 x1, .int .u64 x2, .int .u64 x3, .int .u64 x4, .int .u64 0, .int .u64 0] 27)).heap.size 5 i0 (.int .u8 0) 1 Try.underlying28 HI.out HZ0.out HZ1.out HZ2.out rfl _ zs.length _ rfl HO.out a2 len2 cap2 _ mr rfl HS22.out HNIL.out ?c1 ?c2 ?c3 ?_)
          case c1 => unfold maxLen; omega
          case c2 => omega
          case c3 => exact HSA.out.size
          intro u3 v3 ho3 hg3
          rw [← List.map_append] at ho3
          obtain ⟨g3, c3, rfl, hc3⟩ := own_slice_cap ho3
          have hzl : (zs ++ mr).length = zs.length + len2 := by rw [List.length_append, HS2.out.1]
          have hby3 : Bys v3 v3.heap.size g3 (zs.length + len2) (zs ++ mr) := Bys.own (by
            intro n hn
            rcases List.mem_append.1 hn with hn | hn
            · exact HPZ.out n hn
            · exact HS2.out.2.1 n hn) ho3
          have HG1 := Lib.hid (get5_any _ _ _ c3 _ v3 hby3 (Nat.le_refl _) (by omega) hc3.1 hc3.2)
          rw [HBK.out] at HG1
          have HB3 : Hid (Below (v1.alloc (.cells #[.slice a0 len0 cap0, .int .u64 x0, .int .u64 x1, .int .u64 x2, .int .u64 x3, .int .u64 x4, .int .u64 0, .int .u64 0] 27)).heap.size (v1.alloc (.cells #[.slice a0 len0 cap0, .int .u64 x0, .int .u64 x1, .int .u64 x2, .int .u64 x3, .int .u64 x4, .int .u64 0, .int .u64 0] 27)) v3) := Lib.hid (HSA.out.grown hg3 HSA.out.size (fun q e => (HO.out.lt q e).1))
          clear ho3 hg3 hby3 hzl hlen HO HS22 HB2 HSA
          go_wp2_with fail
          refine HG1.out.mono ?_
          rintro r v4 ⟨⟨na, nn, nc, rfl, hnu, hnn, -, -⟩, hb4⟩
          unfold infoV
          simp only [List.getD_cons_zero, List.getD_cons_succ]
          obtain rfl : len0 = nn := by have h5 := hnu.hl; have h6 := HS0.out.hl; simp only at h5; omega
          have HB4 : Hid (Below (v1.alloc (.cells #[.slice a0 len0 cap0, .int .u64 x0, .int .u64 x1, .int .u64 x2, .int .u64 x3, .int .u64 x4, .int .u64 0, .int .u64 0] 27)).heap.size (v1.alloc (.cells #[.slice a0 len0 cap0, .int .u64 x0, .int .u64 x1, .int .u64 x2, .int .u64 x3, .int .u64 x4, .int .u64 0, .int .u64 0] 27)) (v4.alloc (.cells #[.slice na len0 nc, .int .u64 x0, .int .u64 x1, .int .u64 x2, .int .u64 x3, .int .u64 x4, .int .u64 0, .int .u64 0] 27))) := Lib.hid (by
            have h := HB3.out.trans (hb4.mono HB3.out.size)
            exact h.alloc h.size _)
          have HA : Hid (Below w.heap.size w (v4.alloc (.cells #[.slice na len0 nc, .int .u64 x0, .int .u64 x1, .int .u64 x2, .int .u64 x3, .int .u64 x4, .int .u64 0, .int .u64 0] 27))) := Lib.hid (HA1.out.trans (HB4.out.mono HA1.out.size))
          have HBX : Hid (∀ w', Below (v4.alloc (.cells #[.slice na len0 nc, .int .u64 x0, .int .u64 x1, .int .u64 x2, .int .u64 x3, .int .u64 x4, .int .u64 0, .int .u64 0] 27)).heap.size (v4.alloc (.cells #[.slice na len0 nc, .int .u64 x0, .int .u64 x1, .int .u64 x2, .int .u64 x3, .int .u64 x4, .int .u64 0, .int .u64 0] 27)) w' → Blk w' v1.heap.size #[.slice a0 len0 cap0, .int .u64 x0, .int .u64 x1, .int .u64 x2, .int .u64 x3, .int .u64 x4, .int .u64 0, .int .u64 0] 27 ∧ Blk w' v4.heap.size #[.slice na len0 nc, .int .u64 x0, .int .u64 x1, .int .u64 x2, .int .u64 x3, .int .u64 x4, .int .u64 0, .int .u64 0] 27 ∧ Nus w' w'.heap.size a0 len0 (z0.take len0) ∧ Nus w' w'.heap.size na len0 (z0.take len0)) := Lib.hid (fun w' h => by
            have h1 := HA.out.trans (h.mono HA.out.size)
            have h2 : Below v4.heap.size v4 (v4.alloc (.cells #[.slice na len0 nc, .int .u64 x0, .int .u64 x1, .int .u64 x2, .int .u64 x3, .int .u64 x4, .int .u64 0, .int .u64 0] 27)) := (Below.refl _ _).alloc (Nat.le_refl _) _
            have h3 := h2.trans (h.mono h2.size)
            exact ⟨(Blk.new _ _ _).later (HB4.out.trans (h.mono HB4.out.size)), (Blk.new _ _ _).later h, (HS0.out.below h1).more h1.size, (hnu.below h3).more h3.size⟩)
          have HM1 := Lib.hid (fun w1 => model_parts a0 len0 cap0 x0 x1 x2 x3 x4 0 0 w1 HVV.out)
          have HM2 := Lib.hid (fun w1 => model_parts na len0 nc x0 x1 x2 x3 x4 0 0 w1 HVV.out)
          clear hb4 hnu HG1
          go_wp2
          refine wp_region_facts (by kernel_rfl) Stays Stays.refl Stays.trans 63 rfl [54, 55, 56, 57, 58, 59, 60, 61, 62, 6] (factsOf [Is (.int .i64 0), Is (.bool true), Is (.bool true), Is (.agg #[.slice a0 len0 cap0, .int .u64 x0, .int .u64 x1, .int .u64 x2, .int .u64 x3, .int .u64 x4, .int .u64 0, .int .u64 0]), Mdl a0 len0 cap0 [x0, x1, x2, x3, x4, 0, 0], Is (.agg #[.slice na len0 nc, .int .u64 x0, .int .u64 x1, .int .u64 x2, .int .u64 x3, .int .u64 x4, .int .u64 0, .int .u64 0]), Mdl na len0 nc [x0, x1, x2, x3, x4, 0, 0], Is (.bool true), Is (.bool true), Is (.bool true)]) (by kernel_rfl) (factsOf_mono (mono_cons (Is.mono _) (mono_cons (Is.mono _) (mono_cons (Is.mono _) (mono_cons (Is.mono _) (mono_cons (Mdl.mono _ _ _ _) (mono_cons (Is.mono _) (mono_cons (Mdl.mono _ _ _ _) (mono_cons (Is.mono _) (mono_cons (Is.mono _) (mono_cons (Is.mono _) mono_nil))))))))))) ?steps54 ?fin54
          case fin54 =>
            intro v w2 hb2 hF
            have hlast : v 9 = .bool true := hF 9 (by decide)
            have HBF : Hid (Below w.heap.size w w2) := Lib.hid (HA.out.drew.trans (Below.mono hb2 HA.out.size))
            clear hb2 hF
            simp only [putAll, List.set_cons_succ, List.set_cons_zero, Nat.reduceAdd, hlast]
            go_wp2
            go_ret
            exact ⟨rfl, HBF.out⟩
          case steps54 =>
            refine ⟨?_, ?_, ?_, ?_, ?_, ?_, ?_, ?_, ?_, ?_, trivial⟩
            all_goals intro y w2 hb hy0 hp0
            all_goals have hy := Lib.hid hy0
            all_goals have hp := Lib.hid hp0
            all_goals have hst := Lib.hid hb
            all_goals clear hy0 hp0 hb
            · have e1 : y 10 = .int .i64 0 := hy.out 10 (by decide)
              refine StepG.plain rfl fun K Q hK => ?_
              simp only [fr63] at hK ⊢
              rw [e1] at hK ⊢
              go_simp
              exact hK _ _ ⟨Stays.refl _, by first | rfl | simp [Is] | (simp [factsOf, Is]; done)⟩
            · have e1 : y 54 = .int .i64 0 := hp.out 0 (by decide)
              refine StepG.plain rfl fun K Q hK => ?_
              simp only [fr63] at hK ⊢
              rw [e1] at hK ⊢
              go_simp
              exact hK _ _ ⟨Stays.refl _, by first | rfl | simp [Is] | (simp [factsOf, Is]; done)⟩
            · have e1 : y 55 = .bool true := hp.out 1 (by decide)
              refine StepG.plain rfl fun K Q hK => ?_
              simp only [fr63] at hK ⊢
              rw [e1] at hK ⊢
              go_simp
              exact hK _ _ ⟨Stays.refl _, by first | rfl | simp [Is] | (simp [factsOf, Is]; done)⟩
            · have e1 : y 8 = .pointer (some ⟨v1.heap.size, 0, none⟩) := hy.out 8 (by decide)
              obtain ⟨q0, q1, q2, q3, q4, q5, q6, q7⟩ := c8 (HBX.out _ ((Below.refl _ _).drew.trans hst.out)).1
              refine StepG.yes (b := true) (t := 56) rfl rfl rfl (by decide) (hp.out 2 (by decide)) fun K Q hK => ?_
              simp only [fr63] at hK ⊢
              rw [e1] at hK ⊢
              go_simp
              exact hK _ _ ⟨Stays.refl _, by first | rfl | simp [Is] | (simp [factsOf, Is]; done)⟩
            · have e1 : y 57 = .agg #[.slice a0 len0 cap0, .int .u64 x0, .int .u64 x1, .int .u64 x2, .int .u64 x3, .int .u64 x4, .int .u64 0, .int .u64 0] := hp.out 3 (by decide)
              refine StepG.yes (b := true) (t := 56) rfl rfl rfl (by decide) (hp.out 2 (by decide)) fun K Q hK => ?_
              simp only [fr63] at hK ⊢
              rw [e1] at hK ⊢
              go_simp
              go_at_call 12
              refine (HM1.out _).mono ?_
              rintro r w3 ⟨⟨u, rfl, hm⟩, hb3⟩
              exact hK _ w3 ⟨hb3, hm⟩
            · have e1 : y 9 = .pointer (some ⟨v4.heap.size, 0, none⟩) := hy.out 9 (by decide)
              obtain ⟨q0, q1, q2, q3, q4, q5, q6, q7⟩ := c8 (HBX.out _ ((Below.refl _ _).drew.trans hst.out)).2.1
              refine StepG.yes (b := true) (t := 56) rfl rfl rfl (by decide) (hp.out 2 (by decide)) fun K Q hK => ?_
              simp only [fr63] at hK ⊢
              rw [e1] at hK ⊢
              go_simp
              exact hK _ _ ⟨Stays.refl _, by first | rfl | simp [Is] | (simp [factsOf, Is]; done)⟩
            · have e1 : y 59 = .agg #[.slice na len0 nc, .int .u64 x0, .int .u64 x1, .int .u64 x2, .int .u64 x3, .int .u64 x4, .int .u64 0, .int .u64 0] := hp.out 5 (by decide)
              refine StepG.yes (b := true) (t := 56) rfl rfl rfl (by decide) (hp.out 2 (by decide)) fun K Q hK => ?_
              simp only [fr63] at hK ⊢
              rw [e1] at hK ⊢
              go_simp
              go_at_call 12
              refine (HM2.out _).mono ?_
              rintro r w3 ⟨⟨u, rfl, hm⟩, hb3⟩
              exact hK _ w3 ⟨hb3, hm⟩
            · obtain ⟨gm, e1, hnm⟩ : Mdl a0 len0 cap0 [x0, x1, x2, x3, x4, 0, 0] (y 58) w2 := hp.out 4 (by decide)
              obtain ⟨gk, e2, hnk⟩ : Mdl na len0 nc [x0, x1, x2, x3, x4, 0, 0] (y 60) w2 := hp.out 6 (by decide)
              obtain ⟨-, -, n1, n2⟩ := (HBX.out _ ((Below.refl _ _).drew.trans hst.out))
              refine StepG.yes (b := true) (t := 56) rfl rfl rfl (by decide) (hp.out 2 (by decide)) fun K Q hK => ?_
              simp only [fr63] at hK ⊢
              rw [e1, e2] at hK ⊢
              go_simp
              go_at_call 15
              refine (same_yes _ _ _ _ _ _ _ _ _ _ _ _ _ n1 n2 hnm hnk (Nat.le_refl _) hnn).mono ?_
              rintro r w3 ⟨rfl, hb3⟩
              exact hK _ w3 ⟨hb3, rfl⟩
            · have e1 : y 56 = .bool true := hp.out 2 (by decide)
              have e2 : y 61 = .bool true := hp.out 7 (by decide)
              refine StepG.plain rfl fun K Q hK => ?_
              simp only [fr63] at hK ⊢
              rw [e1, e2] at hK ⊢
              go_simp
              exact hK _ _ ⟨Stays.refl _, by first | rfl | simp [Is] | (simp [factsOf, Is]; done)⟩
            · have e1 : y 62 = .bool true := hp.out 8 (by decide)
              refine StepG.plain rfl fun K Q hK => ?_
              simp only [fr63] at hK ⊢
              rw [e1] at hK ⊢
              go_simp
              exact hK _ _ ⟨Stays.refl _, by first | rfl | simp [Is] | (simp [factsOf, Is]; done)⟩
        · have z4b : (x4 == 0) = false := by simpa using z4
          have z6b : (x6 == 0) = false := by simpa using z6
          have hv : ∀ x ∈ ([x0, x1, x2, x3, x4, x5, x6] : List Int), 0 ≤ x ∧ x ≤ 18446744073709551615 := by
            intro x hx
            simp only [List.mem_cons, List.not_mem_nil, or_false] at hx
            rcases hx with rfl | rfl | rfl | rfl | rfl | rfl | rfl <;> assumption
          have HVV := Lib.hid hv
          have HA1 : Hid (Below w.heap.size w (v1.alloc (.cells #[.slice a0 len0 cap0, .int .u64 x0, .int .u64 x1, .int .u64 x2, .int .u64 x3, .int .u64 x4, .int .u64 x5, .int .u64 x6] 27))) := Lib.hid (HB1.out.alloc HB1.out.size _)
          have HBK := Lib.hid (dyn_back (more := mr) (N := z0.take len0) HS0.out.bd (getD_bd hv))
          rw [vK_all rfl (by first | exact fun _ => rfl | exact fun h => absurd h z4) (by first | exact fun _ => rfl | exact fun h => absurd h z6)] at HBK
          have HLEN : Hid ((putBy (z0.take len0) [x0, x1, x2, x3, x4, x5, x6]).length ≤ 10000) := Lib.hid (by
            rw [putBy_len]; have h5 := seven_le ([x0, x1, x2, x3, x4, x5, x6]) 7; have h6 := HS0.out.hl; omega)
          have HPU := Lib.hid (put_parts w.heap.size a0 len0 cap0 (z0.take len0) x0 x1 x2 x3 x4 x5 x6 (v1.alloc (.cells #[.slice a0 len0 cap0, .int .u64 x0, .int .u64 x1, .int .u64 x2, .int .u64 x3, .int .u64 x4, .int .u64 x5, .int .u64 x6] 27)) (HS0.out.below HA1.out) hv HA1.out.size (by omega))
          have HPZ := Lib.hid (HPBD.out [x0, x1, x2, x3, x4, x5, x6])
          generalize putBy (z0.take len0) [x0, x1, x2, x3, x4, x5, x6] = zs at HBK HPU HPZ HLEN
          go_wp2_with fail
          refine HPU.out.mono ?_
          rintro r v2 ⟨⟨u, rfl, ho⟩, hb2⟩
          have HO := Lib.hid ho
          have HB2 := Lib.hid (HA1.out.trans (hb2.mono HA1.out.size))
          have HS22 := Lib.hid (HS2.out.below HB2.out)
          have hlen := HLEN.out
          have HSA := Lib.hid hb2
          clear ho hb2 HPU hv
          go_wp2_with (at_builtin; refine wpList_append_bys rfl _ _ 28 rfl (v1.alloc (.cells #[.slice a0 len0 cap0, .int .u64 x0, .int .u64 x1, .int .u64 x2, .int .u64 x3, .int .u64 x4, .int .u64 x5, .int .u64 x6] 27)).heap.size 5 i0 (.int .u8 0) 1 Try.underlying28 HI.out HZ0.out HZ1.out HZ2.out rfl _ zs.length _ rfl HO.out a2 len2 cap2 _ mr rfl HS22.out HNIL.out ?c1 ?c2 ?c3 ?_)
          case c1 => unfold maxLen; omega
          case c2 => omega
          case c3 => exact HSA.out.size
          intro u3 v3 ho3 hg3
          rw [← List.map_append] at ho3
          obtain ⟨g3, c3, rfl, hc3⟩ := own_slice_cap ho3
          have hzl : (zs ++ mr).length = zs.length + len2 := by rw [List.length_append, HS2.out.1]
          have hby3 : Bys v3 v3.heap.size g3 (zs.length + len2) (zs ++ mr) := Bys.own (by
            intro n hn
            rcases List.mem_append.1 hn with hn | hn
            · exact HPZ.out n hn
            · exact HS2.out.2.1 n hn) ho3
          have HG1 := Lib.hid (get5_any _ _ _ c3 _ v3 hby3 (Nat.le_refl _) (by omega) hc3.1 hc3.2)
          rw [HBK.out] at HG1
          have HB3 : Hid (Below (v1.alloc (.cells #[.slice a0 len0 cap0, .int .u64 x0, .int .u64 x1, .int .u64 x2, .int .u64 x3, .int .u64 x4, .int .u64 x5, .int .u64 x6] 27)).heap.size (v1.alloc (.cells #[.slice a0 len0 cap0, .int .u64 x0, .int .u64 x1, .int .u64 x2, .int .u64 x3, .int .u64 x4, .int .u64 x5, .int .u64 x6] 27)) v3) := Lib.hid (HSA.out.grown hg3 HSA.out.size (fun q e => (HO.out.lt q e).1))
          clear ho3 hg3 hby3 hzl hlen HO HS22 HB2 HSA
          go_wp2_with fail
          refine HG1.out.mono ?_
          rintro r v4 ⟨⟨na, nn, nc, rfl, hnu, hnn, -, -⟩, hb4⟩
          unfold infoV
          simp only [List.getD_cons_zero, List.getD_cons_succ]
          obtain rfl : len0 = nn := by have h5 := hnu.hl; have h6 := HS0.out.hl; simp only at h5; omega
          have HB4 : Hid (Below (v1.alloc (.cells #[.slice a0 len0 cap0, .int .u64 x0, .int .u64 x1, .int .u64 x2, .int .u64 x3, .int .u64 x4, .int .u64 x5, .int .u64 x6] 27)).heap.size (v1.alloc (.cells #[.slice a0 len0 cap0, .int .u64 x0, .int .u64 x1, .int .u64 x2, .int .u64 x3, .int .u64 x4, .int .u64 x5, .int .u64 x6] 27)) (v4.alloc (.cells #[.slice na len0 nc, .int .u64 x0, .int .u64 x1, .int .u64 x2, .int .u64 x3, .int .u64 x4, .int .u64 x5, .int .u64 x6] 27))) := Lib.hid (by
            have h := HB3.out.trans (hb4.mono HB3.out.size)
            exact h.alloc h.size _)
          have HA : Hid (Below w.heap.size w (v4.alloc (.cells #[.slice na len0 nc, .int .u64 x0, .int .u64 x1, .int .u64 x2, .int .u64 x3, .int .u64 x4, .int .u64 x5, .int .u64 x6] 27))) := Lib.hid (HA1.out.trans (HB4.out.mono HA1.out.size))
          have HBX : Hid (∀ w', Below (v4.alloc (.cells #[.slice na len0 nc, .int .u64 x0, .int .u64 x1, .int .u64 x2, .int .u64 x3, .int .u64 x4, .int .u64 x5, .int .u64 x6] 27)).heap.size (v4.alloc (.cells #[.slice na len0 nc, .int .u64 x0, .int .u64 x1, .int .u64 x2, .int .u64 x3, .int .u64 x4, .int .u64 x5, .int .u64 x6] 27)) w' → Blk w' v1.heap.size #[.slice a0 len0 cap0, .int .u64 x0, .int .u64 x1, .int .u64 x2, .int .u64 x3, .int .u64 x4, .int .u64 x5, .int .u64 x6] 27 ∧ Blk w' v4.heap.size #[.slice na len0 nc, .int .u64 x0, .int .u64 x1, .int .u64 x2, .int .u64 x3, .int .u64 x4, .int .u64 x5, .int .u64 x6] 27 ∧ Nus w' w'.heap.size a0 len0 (z0.take len0) ∧ Nus w' w'.heap.size na len0 (z0.take len0)) := Lib.hid (fun w' h => by
            have h1 := HA.out.trans (h.mono HA.out.size)
            have h2 : Below v4.heap.size v4 (v4.alloc (.cells #[.slice na len0 nc, .int .u64 x0, .int .u64 x1, .int .u64 x2, .int .u64 x3, .int .u64 x4, .int .u64 x5, .int .u64 x6] 27)) := (Below.refl _ _).alloc (Nat.le_refl _) _
            have h3 := h2.trans (h.mono h2.size)
            exact ⟨(Blk.new _ _ _).later (HB4.out.trans (h.mono HB4.out.size)), (Blk.new _ _ _).later h, (HS0.out.below h1).more h1.size, (hnu.below h3).more h3.size⟩)
          have HM1 := Lib.hid (fun w1 => model_parts a0 len0 cap0 x0 x1 x2 x3 x4 x5 x6 w1 HVV.out)
          have HM2 := Lib.hid (fun w1 => model_parts na len0 nc x0 x1 x2 x3 x4 x5 x6 w1 HVV.out)
          clear hb4 hnu HG1
          go_wp2
          refine wp_region_facts (by kernel_rfl) Stays Stays.refl Stays.trans 63 rfl [54, 55, 56, 57, 58, 59, 60, 61, 62, 6] (factsOf [Is (.int .i64 0), Is (.bool true), Is (.bool true), Is (.agg #[.slice a0 len0 cap0, .int .u64 x0, .int .u64 x1, .int .u64 x2, .int .u64 x3, .int .u64 x4, .int .u64 x5, .int .u64 x6]), Mdl a0 len0 cap0 [x0, x1, x2, x3, x4, x5, x6], Is (.agg #[.slice na len0 nc, .int .u64 x0, .int .u64 x1, .int .u64 x2, .int .u64 x3, .int .u64 x4, .int .u64 x5, .int .u64 x6]), Mdl na len0 nc [x0, x1, x2, x3, x4, x5, x6], Is (.bool true), Is (.bool true), Is (.bool true)]) (by kernel_rfl) (factsOf_mono (mono_cons (Is.mono _) (mono_cons (Is.mono _) (mono_cons (Is.mono _) (mono_cons (Is.mono _) (mono_cons (Mdl.mono _ _ _ _) (mono_cons (Is.mono _) (mono_cons (Mdl.mono _ _ _ _) (mono_cons (Is.mono _) (mono_cons (Is.mono _) (mono_cons (Is.mono _) mono_nil))))))))))) ?steps54 ?fin54
          case fin54 =>
            intro v w2 hb2 hF
            have hlast : v 9 = .bool true := hF 9 (by decide)
            have HBF : Hid (Below w.heap.size w w2) := Lib.hid (HA.out.drew.trans (Below.mono hb2 HA.out.size))
            clear hb2 hF
            simp only [putAll, List.set_cons_succ, List.set_cons_zero, Nat.reduceAdd, hlast]
            go_wp2
            go_ret
            exact ⟨rfl, HBF.out⟩
          case steps54 =>
            refine ⟨?_, ?_, ?_, ?_, ?_, ?_, ?_, ?_, ?_, ?_, trivial⟩
            all_goals intro y w2 hb hy0 hp0
            all_goals have hy := Lib.hid hy0
            all_goals have hp := Lib.hid hp0
            all_goals have hst := Lib.hid hb
            all_goals clear hy0 hp0 hb
            · have e1 : y 10 = .int .i64 0 := hy.out 10 (by decide)
              refine StepG.plain rfl fun K Q hK => ?_
              simp only [fr63] at hK ⊢
              rw [e1] at hK ⊢
              go_simp
              exact hK _ _ ⟨Stays.refl _, by first | rfl | simp [Is] | (simp [factsOf, Is]; done)⟩
            · have e1 : y 54 = .int .i64 0 := hp.out 0 (by decide)
              refine StepG.plain rfl fun K Q hK => ?_
              simp only [fr63] at hK ⊢
              rw [e1] at hK ⊢
              go_simp
              exact hK _ _ ⟨Stays.refl _, by first | rfl | simp [Is] | (simp [factsOf, Is]; done)⟩
            · have e1 : y 55 = .bool true := hp.out 1 (by decide)
              refine StepG.plain rfl fun K Q hK => ?_
              simp only [fr63] at hK ⊢
              rw [e1] at hK ⊢
              go_simp
              exact hK _ _ ⟨Stays.refl _, by first | rfl | simp [Is] | (simp [factsOf, Is]; done)⟩
            · have e1 : y 8 = .pointer (some ⟨v1.heap.size, 0, none⟩) := hy.out 8 (by decide)
              obtain ⟨q0, q1, q2, q3, q4, q5, q6, q7⟩ := c8 (HBX.out _ ((Below.refl _ _).drew.trans hst.out)).1
              refine StepG.yes (b := true) (t := 56) rfl rfl rfl (by decide) (hp.out 2 (by decide)) fun K Q hK => ?_
              simp only [fr63] at hK ⊢
              rw [e1] at hK ⊢
              go_simp
              exact hK _ _ ⟨Stays.refl _, by first | rfl | simp [Is] | (simp [factsOf, Is]; done)⟩
            · have e1 : y 57 = .agg #[.slice a0 len0 cap0, .int .u64 x0, .int .u64 x1, .int .u64 x2, .int .u64 x3, .int .u64 x4, .int .u64 x5, .int .u64 x6] := hp.out 3 (by decide)
              refine StepG.yes (b := true) (t := 56) rfl rfl rfl (by decide) (hp.out 2 (by decide)) fun K Q hK => ?_
              simp only [fr63] at hK ⊢
              rw [e1] at hK ⊢
              go_simp
              go_at_call 12
              refine (HM1.out _).mono ?_
              rintro r w3 ⟨⟨u, rfl, hm⟩, hb3⟩
              exact hK _ w3 ⟨hb3, hm⟩
            · have e1 : y 9 = .pointer (some ⟨v4.heap.size, 0, none⟩) := hy.out 9 (by decide)
              obtain ⟨q0, q1, q2, q3, q4, q5, q6, q7⟩ := c8 (HBX.out _ ((Below.refl _ _).drew.trans hst.out)).2.1
              refine StepG.yes (b := true) (t := 56) rfl rfl rfl (by decide) (hp.out 2 (by decide)) fun K Q hK => ?_
              simp only [fr63] at hK ⊢
              rw [e1] at hK ⊢
              go_simp
              exact hK _ _ ⟨Stays.refl _, by first | rfl | simp [Is] | (simp [factsOf, Is]; done)⟩
            · have e1 : y 59 = .agg #[.slice na len0 nc, .int .u64 x0, .int .u64 x1, .int .u64 x2, .int .u64 x3, .int .u64 x4, .int .u64 x5, .int .u64 x6] := hp.out 5 (by decide)
              refine StepG.yes (b := true) (t := 56) rfl rfl rfl (by decide) (hp.out 2 (by decide)) fun K Q hK => ?_
              simp only [fr63] at hK ⊢
              rw [e1] at hK ⊢
              go_simp
              go_at_call 12
              refine (HM2.out _).mono ?_
              rintro r w3 ⟨⟨u, rfl, hm⟩, hb3⟩
              exact hK _ w3 ⟨hb3, hm⟩
            · obtain ⟨gm, e1, hnm⟩ : Mdl a0 len0 cap0 [x0, x1, x2, x3, x4, x5, x6] (y 58) w2 := hp.out 4 (by decide)
              obtain ⟨gk, e2, hnk⟩ : Mdl na len0 nc [x0, x1, x2, x3, x4, x5, x6] (y 60) w2 := hp.out 6 (by decide)
              obtain ⟨-, -, n1, n2⟩ := (HBX.out _ ((Below.refl _ _).drew.trans hst.out))
              refine StepG.yes (b := true) (t := 56) rfl rfl rfl (by decide) (hp.out 2 (by decide)) fun K Q hK => ?_
              simp only [fr63] at hK ⊢
              rw [e1, e2] at hK ⊢
              go_simp
              go_at_call 15
              refine (same_yes _ _ _ _ _ _ _ _ _ _ _ _ _ n1 n2 hnm hnk (Nat.le_refl _) hnn).mono ?_
              rintro r w3 ⟨rfl, hb3⟩
              exact hK _ w3 ⟨hb3, rfl⟩
            · have e1 : y 56 = .bool true := hp.out 2 (by decide)
              have e2 : y 61 = .bool true := hp.out 7 (by decide)
              refine StepG.plain rfl fun K Q hK => ?_
              simp only [fr63] at hK ⊢
              rw [e1, e2] at hK ⊢
              go_simp
              exact hK _ _ ⟨Stays.refl _, by first | rfl | simp [Is] | (simp [factsOf, Is]; done)⟩
            · have e1 : y 62 = .bool true := hp.out 8 (by decide)
              refine StepG.plain rfl fun K Q hK => ?_
              simp only [fr63] at hK ⊢
              rw [e1] at hK ⊢
              go_simp
              exact hK _ _ ⟨Stays.refl _, by first | rfl | simp [Is] | (simp [factsOf, Is]; done)⟩

set_option maxRecDepth 100000 in
theorem lifted (os : Os) (started : os.Started) (H : Type) (enc : TypeId × Value → H) :
    ReturnsInHanded {} Try.checked os 6 .any (Rows.dynamicBackSpec.pre6 enc Try.prog Try.f6 Rows.dynamicBackRow.domain false) (Rows.dynamicBackSpec.post enc Try.prog Try.f6 false true false false) := by
  refine returnsInHanded_of_change (C := Try.checked) own started (by kernel_rfl) Try.func6
    (ChangeSpec.witness6 (enc := enc) (C := Try.checked) false ⟨#[], #[.slice none 0 0, .agg #[.int .u64 0, .int .u64 0, .int .u64 0, .int .u64 0, .int .u64 0, .int .u64 0, .int .u64 0], .slice none 0 0], []⟩ 8 (by kernel_rfl) (by kernel_rfl) (by kernel_rfl) (by kernel_rfl)) ?_
  intro W base args ds gs before hval0 hW hcnd _
  have hval : ∀ (j : Nat) t v, Try.f6.params[j]? = some t → args[j]? = some v → Value.okWide Try.prog W .any base t v := hval0
  have hW' := hW
  obtain ⟨p, q, hA0, hV, rfl, hfz, hnd⟩ := hW
  have hA : DataW.TrodAll enc Try.prog W 0 (fun _ => true) true Try.f6.params.toList args.toList ds p := hA0
  rw [Try.params6] at hA hval
  obtain ⟨v0, vs0, d0, ds0, p0, q0, hargs, rfl, rfl, h0, r0⟩ := trodAll_cons hA
  obtain ⟨v1, vs1, d1, ds1, p1, q1, rfl, rfl, rfl, h1, r1⟩ := trodAll_cons r0
  obtain ⟨v2, vs2, d2, ds2, p2, q2, rfl, rfl, rfl, h2, r2⟩ := trodAll_cons r1
  obtain ⟨rfl, rfl, rfl⟩ := trodAll_nil r2
  obtain rfl : args = #[v0, v1, v2] := by cases args; simp_all
  obtain ⟨rfl, rfl⟩ := trodVars_none hV
  obtain ⟨a0, len0, cap0, rfl⟩ := okWide_slice Try.underlying22 (hval 0 22 v0 rfl rfl)
  have k0 := h0
  have lt0 : ∀ x ∈ p0, x.block < W.heap.size := by obtain ⟨m, hm⟩ := k0; exact DataW.trod_lt m _ _ _ hm
  obtain ⟨z0, w0⟩ : ∃ zs, IsRow .u64 W a0 len0 cap0 zs := by
    obtain ⟨fuel, hf⟩ := h0
    rcases open_ints Try.underlying22 Try.underlying23 (by kernel_rfl) hf with ⟨hcs, _⟩ | ⟨x, l, c, zs, hcs, _, hl, hm, hz, _, hcell, hwz⟩
    · simp [Value.cells] at hcs
      obtain ⟨rfl, rfl, rfl⟩ := hcs
      exact ⟨[], .inl ⟨rfl, rfl, rfl, rfl⟩⟩
    · simp [Value.cells] at hcs
      obtain ⟨rfl, rfl, rfl⟩ := hcs
      exact ⟨zs, .inr ⟨_, rfl, hl, hm, by simpa using hz, hcell, hwz⟩⟩
  obtain ⟨cs1, rfl, hz1, _⟩ : ∃ cs, v1 = .agg cs ∧ cs.size = Try.prog.cellsOf 24 ∧ Row.okWide Try.prog W .any base 24 cs := by
    have := hval 1 24 v1 rfl rfl
    simpa [Value.okWide, Try.underlying24] using this
  rw [show Try.prog.cellsOf 24 = 7 from by kernel_rfl] at hz1
  have k1 := h1
  have lt1 : ∀ x ∈ p1, x.block < W.heap.size := by obtain ⟨m, hm⟩ := k1; exact DataW.trod_lt m _ _ _ hm
  obtain ⟨z1, w1, rfl⟩ : ∃ zs, IsArr .u64 7 zs ∧ cs1 = (zs.map (Value.int .u64)).toArray := by
    obtain ⟨fuel, hf⟩ := h1
    exact open_arr Try.underlying24 Try.underlying23 (by kernel_rfl) hz1 hf
  obtain ⟨a2, len2, cap2, rfl⟩ := okWide_slice Try.underlying28 (hval 2 28 v2 rfl rfl)
  have k2 := h2
  have lt2 : ∀ x ∈ p2, x.block < W.heap.size := by obtain ⟨m, hm⟩ := k2; exact DataW.trod_lt m _ _ _ hm
  obtain ⟨z2, w2⟩ : ∃ zs, IsRow .u8 W a2 len2 cap2 zs := by
    obtain ⟨fuel, hf⟩ := h2
    rcases open_ints Try.underlying28 Try.underlying5 (by kernel_rfl) hf with ⟨hcs, _⟩ | ⟨x, l, c, zs, hcs, _, hl, hm, hz, _, hcell, hwz⟩
    · simp [Value.cells] at hcs
      obtain ⟨rfl, rfl, rfl⟩ := hcs
      exact ⟨[], .inl ⟨rfl, rfl, rfl, rfl⟩⟩
    · simp [Value.cells] at hcs
      obtain ⟨rfl, rfl, rfl⟩ := hcs
      exact ⟨zs, .inr ⟨_, rfl, hl, hm, by simpa using hz, hcell, hwz⟩⟩
  clear hA0 hval0
  refine (walk a0 len0 cap0 z0 z1 a2 len2 cap2 z2 W w0 w1 w2).mono fun e W' ⟨he, bel⟩ => ?_
  subst he
  exact ⟨_, rfl, _, _, _, [], _, [], hW', trodAll_mk1 (shut_bool Try.underlying4 _), (trodAll_cons_mk (Below.trod laidOut (by kernel_rfl) (of_decide_eq_true (by kernel_rfl)) k0 bel lt0) (trodAll_cons_mk (Below.trod laidOut (by kernel_rfl) (of_decide_eq_true (by kernel_rfl)) k1 bel lt1) (trodAll_cons_mk (Below.trod laidOut (by kernel_rfl) (of_decide_eq_true (by kernel_rfl)) k2 bel lt2) trodAll_mk0))), rfl, bel.frame _, fun h => by cases h⟩

theorem over : Rows.dynamicBackRow.holds Try.pinned (OpenSpec.ofChange Rows.dynamicBackSpec) :=
  OpenClaim.holds_of_wide 6 Try.f6 rfl rfl rfl rfl rfl rfl rfl ⟨rfl, rfl, rfl, rfl, rfl⟩ rfl rfl rfl rfl rfl (by kernel_rfl) Try.func6 (by kernel_rfl)
    (of_decide_eq_true (by kernel_rfl)) (by unfold Func.isWrapper; first | (rw [if_pos (by decide +kernel)]; kernel_rfl) | (rw [if_neg (by decide +kernel)]; exact ⟨rfl, rfl⟩))
    (fun os started H enc _ => lifted os started H enc)

theorem proved : Rows.DynamicBackSaid := over
#print axioms proved
end Go.Proofs.Ytngjnbfjlchfgaa.dynamicBack
