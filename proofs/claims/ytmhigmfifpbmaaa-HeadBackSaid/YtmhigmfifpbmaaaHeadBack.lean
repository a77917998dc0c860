/-
  What is proved here: HeadBack: what is put is got, whatever stands behind; what is got is put as it was.
  Conditions: none of our own; the law's row says what its input is.
-/
import Derived.Test.YtmhigmfifpbmaaaRows
import Derived.Test.YtmhigmfifpbmaaaHeaGot
import Derived.Test.YtmhigmfifpbmaaaApp
import Derived.WalkKit
import Derived.ProofKit
import Derived.OpenShut
import Derived.ShutString
import Derived.ChangeOld
import Derived.Below
namespace Go.Proofs.Ytmhigmfifpbmaaa.headBack
open Go.ChangeShapes Go.WideShapes Go.ChangeAt Go.RowKit
open Go.ChangeMaps (open_string shut_string)
set_option linter.unusedVariables false

theorem own : ownKnob Try.prog.godebug = none := by kernel_rfl
theorem laidOut : laidOutB Try.prog = true := by kernel_rfl

set_option maxRecDepth 100000 in
set_option maxHeartbeats 1600000 in
theorem core_no (a0 a1 a2 a3 : Int) (a4 : Option Addr) (len4 cap4 : Nat) (w : World) (hl : len4 ≤ 2000) (hv : validB a0 a3 = false) :
    Calls Try.prog 5 #[.int .i64 a0, .int .u64 a1, .int .u64 a2, .int .i64 a3, .slice a4 len4 cap4] w fun e w' => e = .returned (.bool true) ∧ Below w.heap.size w w' := by
  have hli : (len4 : Int) ≤ 2000 := by omega
  have RP : Hid (∀ w1, Calls Try.prog 8 #[.agg #[.int .i64 a0, .int .u64 a1, .int .u64 a2, .int .i64 a3]] w1 fun r w' => r = .returned (.tuple #[.slice none 0 0, .int .i64 1]) ∧ Below w1.heap.size w1 w') := Lib.hid (fun w1 => put_arg a0 a1 a2 a3 w1 hv)
  clear hv
  go_enter Try.func5, Try.ntmps5
  go_wp2_with fail
  refine (awake_any _).mono ?_
  rintro r v1 ⟨rfl, hb1⟩
  have HB1 : Hid (Below w.heap.size w (v1.alloc (.cells #[.int .i64 a0, .int .u64 a1, .int .u64 a2, .int .i64 a3] 25))) := Lib.hid (hb1.alloc hb1.size _)
  clear hb1
  go_wp2_with (go_at_call 8; refine (RP.out _).mono ?_)
  rintro r v2 ⟨rfl, hb2⟩
  have HB2 := Lib.hid (HB1.out.trans (hb2.mono HB1.out.size))
  clear hb2
  go_wp2
  go_ret
  exact ⟨rfl, HB2.out⟩

set_option maxRecDepth 100000 in
set_option maxHeartbeats 1600000 in
theorem core_er (a0 a1 a2 a3 : Int) (a4 : Option Addr) (len4 cap4 : Nat) (zs : List Int) (w : World) (hb : Bys w w.heap.size a4 len4 zs) (hcap : len4 ≤ cap4) (hcm : (cap4 : Int) ≤ 9223372036854775807) (hnil : a4 = none → cap4 = 0) (hl : len4 ≤ 2000)
    (hv : validB a0 a3 = true) (e0 : 0 ≤ a1) (e1 : a1 ≤ 18446744073709551615) (s0 : 0 ≤ a2) (s1 : a2 ≤ 18446744073709551615) (er : Int) (her : er ≠ 0) (hm : getV zs = .tuple #[.agg #[.int .i64 0, .int .u64 0, .int .u64 0, .int .i64 0], .int .i64 er]) :
    Calls Try.prog 5 #[.int .i64 a0, .int .u64 a1, .int .u64 a2, .int .i64 a3, .slice a4 len4 cap4] w fun e w' => e = .returned (.bool true) ∧ Below w.heap.size w w' := by
  obtain ⟨i0, hi, hz0, hz1, hz2⟩ := info_parts info_u8
  have HI := Lib.hid hi
  have HZ0 := Lib.hid hz0
  have HZ1 := Lib.hid hz1
  have HZ2 := Lib.hid hz2
  have hli : (len4 : Int) ≤ 2000 := by omega
  have hlz := hb.1
  have HBY := Lib.hid hb
  have HNIL := Lib.hid hnil
  have RP : Hid (∀ w1, Calls Try.prog 8 #[.agg #[.int .i64 a0, .int .u64 a1, .int .u64 a2, .int .i64 a3]] w1 fun r w' => (∃ u, r = .returned (.tuple #[u, .int .i64 0]) ∧ w'.ownsRow w1.heap.size 5 1 u 64 ((enc a0 a1 a2 a3).map (Value.int .u8))) ∧ Below w1.heap.size w1 w') := Lib.hid (fun w1 => put_own a0 a1 a2 a3 w1 hv e0 e1 s0 s1)
  have GX : Hid (getV (enc a0 a1 a2 a3 ++ zs) = .tuple #[.agg #[.int .i64 a0, .int .u64 a1, .int .u64 a2, .int .i64 a3], .int .i64 0]) := Lib.hid (by
    have h := head_put hv e0 e1 s0 s1 zs
    unfold getV
    rw [if_neg (by rw [List.length_append, enc_len]; omega), h.2.2.2.2, h.1, h.2.1, h.2.2.1, h.2.2.2.1]
    rfl)
  have HEB : Hid (∀ n ∈ enc a0 a1 a2 a3 ++ zs, 0 ≤ n ∧ n ≤ 255) := Lib.hid (by
    intro n hn
    rcases List.mem_append.1 hn with h | h
    · exact enc_bd _ _ _ _ n h
    · exact hb.2.1 n h)
  have HLE : Hid ((enc a0 a1 a2 a3 ++ zs).length = 64 + len4) := Lib.hid (by rw [List.length_append, enc_len, hlz])
  have GM : Hid (∀ W, Below w.heap.size w W → Calls Try.prog 11 #[.slice a4 len4 cap4] W fun r w' => r = .returned (.tuple #[.agg #[.int .i64 0, .int .u64 0, .int .u64 0, .int .i64 0], .int .i64 er]) ∧ Below W.heap.size W w') := Lib.hid (fun W hW => hget_f hm w.heap.size _ _ cap4 W (hb.below hW) hW.size hcap hcm)
  have HER : (er == 0) = false := by simpa using her
  have HER2 : (er != 0) = true := by simpa using her
  clear hm her
  clear hb hi hz0 hz1 hz2 hnil hv
  go_enter Try.func5, Try.ntmps5
  go_wp2_with fail
  refine (awake_any _).mono ?_
  rintro r v1 ⟨rfl, hb1⟩
  have HK1 := Lib.hid (Blk.new v1 #[.int .i64 a0, .int .u64 a1, .int .u64 a2, .int .i64 a3] 25)
  have HB1 : Hid (Below w.heap.size w (v1.alloc (.cells #[.int .i64 a0, .int .u64 a1, .int .u64 a2, .int .i64 a3] 25))) := Lib.hid (hb1.alloc hb1.size _)
  clear hb1
  go_wp2_with (go_at_call 8; refine (RP.out _).mono ?_)
  rintro r v2 ⟨⟨u, rfl, ho⟩, hb2⟩
  obtain ⟨g, c, rfl, hg⟩ := own_some ho (by decide)
  have HO := Lib.hid ho
  have HB2 := Lib.hid hb2
  have HZS := Lib.hid (HBY.out.below (HB1.out.trans (hb2.mono HB1.out.size)))
  clear ho hb2
  go_wp2_with (at_builtin; refine wpList_append_bys rfl _ _ 26 rfl _ 5 i0 (.int .u8 0) 1 Try.underlying26 HI.out HZ0.out HZ1.out HZ2.out rfl _ 64 _ rfl HO.out a4 len4 cap4 _ zs rfl HZS.out HNIL.out ?c1 ?c2 ?c3 ?_)
  case c1 => unfold maxLen; omega
  case c2 => omega
  case c3 => exact HB2.out.size
  intro v' v3 ho3 hg3
  rw [← List.map_append] at ho3
  obtain ⟨g3, c3, rfl, _⟩ := own_some ho3 (by omega)
  have hb3 := HB2.out.grown hg3 HB2.out.size (fun q e => (HO.out.lt q e).1)
  have hcap3 : 64 + len4 ≤ c3 ∧ (c3 : Int) ≤ 9223372036854775807 := by
    rcases ho3.2 with ⟨hx, _⟩ | ⟨g, c, cur, hx, _, _, h3, h4, _⟩
    · cases hx
    · injection hx with _ _ hx; subst hx; exact ⟨h3, by unfold maxLen at h4; omega⟩
  have G1 : Hid (Calls Try.prog 11 #[.slice (some ⟨g3, 0, none⟩) (64 + len4) c3] v3 fun r w' => r = .returned (.tuple #[.agg #[.int .i64 a0, .int .u64 a1, .int .u64 a2, .int .i64 a3], .int .i64 0]) ∧ Below v3.heap.size v3 w') := Lib.hid (hget_f GX.out _ _ _ c3 v3 (Bys.own HEB.out ho3) (Nat.le_refl _) hcap3.1 hcap3.2)
  have HB3 := Lib.hid hb3
  have HBW3 := Lib.hid (HB1.out.trans (hb3.mono HB1.out.size))
  have HK3 := Lib.hid (HK1.out.later hb3)
  clear ho3 hg3 hb3 hcap3
  go_wp2_with (go_at_call 11; refine G1.out.mono ?_)
  rintro r v4 ⟨rfl, hb4⟩
  have HK4 := Lib.hid ((HK3.out.later hb4).alloc (.cells #[.int .i64 a0, .int .u64 a1, .int .u64 a2, .int .i64 a3] 25))
  have HX4 := Lib.hid (Blk.new v4 #[.int .i64 a0, .int .u64 a1, .int .u64 a2, .int .i64 a3] 25)
  have HBW4 : Hid (Below w.heap.size w (v4.alloc (.cells #[.int .i64 a0, .int .u64 a1, .int .u64 a2, .int .i64 a3] 25))) := Lib.hid (by
    have h := HBW3.out.trans (hb4.mono HBW3.out.size)
    exact h.alloc h.size _)
  clear hb4
  go_wp2_with (go_at_call 11; refine (GM.out _ HBW4.out).mono ?_)
  rintro r v5 ⟨rfl, hb5⟩
  obtain ⟨q0, q1, q2, q3⟩ := ((HK4.out.later hb5).alloc (.cells #[.int .i64 0, .int .u64 0, .int .u64 0, .int .i64 0] 25)).c4
  obtain ⟨x0, x1, x2, x3⟩ := ((HX4.out.later hb5).alloc (.cells #[.int .i64 0, .int .u64 0, .int .u64 0, .int .i64 0] 25)).c4
  have HBW5 : Hid (Below w.heap.size w (v5.alloc (.cells #[.int .i64 0, .int .u64 0, .int .u64 0, .int .i64 0] 25))) := Lib.hid (by
    have h := HBW4.out.trans (hb5.mono HBW4.out.size)
    exact h.alloc h.size _)
  clear hb5
  go_wp2
  go_ret
  exact ⟨ret_bool (by simp), HBW5.out⟩

set_option maxRecDepth 100000 in
set_option maxHeartbeats 1600000 in
theorem core_ok (a0 a1 a2 a3 : Int) (a4 : Option Addr) (len4 cap4 : Nat) (zs : List Int) (w : World) (hb : Bys w w.heap.size a4 len4 zs) (hcap : len4 ≤ cap4) (hcm : (cap4 : Int) ≤ 9223372036854775807) (hnil : a4 = none → cap4 = 0) (hl : len4 ≤ 2000)
    (hv : validB a0 a3 = true) (e0 : 0 ≤ a1) (e1 : a1 ≤ 18446744073709551615) (s0 : 0 ≤ a2) (s1 : a2 ≤ 18446744073709551615) (k e s n : Int) (h64z : 64 ≤ len4) (hv2 : validB k n = true) (ee : 0 ≤ e ∧ e ≤ 18446744073709551615) (ss : 0 ≤ s ∧ s ≤ 18446744073709551615) (hpe : enc k e s n = piece zs 0 64) (hm : getV zs = .tuple #[.agg #[.int .i64 k, .int .u64 e, .int .u64 s, .int .i64 n], .int .i64 0]) :
    Calls Try.prog 5 #[.int .i64 a0, .int .u64 a1, .int .u64 a2, .int .i64 a3, .slice a4 len4 cap4] w fun e w' => e = .returned (.bool true) ∧ Below w.heap.size w w' := by
  obtain ⟨i0, hi, hz0, hz1, hz2⟩ := info_parts info_u8
  have HI := Lib.hid hi
  have HZ0 := Lib.hid hz0
  have HZ1 := Lib.hid hz1
  have HZ2 := Lib.hid hz2
  have hli : (len4 : Int) ≤ 2000 := by omega
  have hlz := hb.1
  have HBY := Lib.hid hb
  have HNIL := Lib.hid hnil
  have RP : Hid (∀ w1, Calls Try.prog 8 #[.agg #[.int .i64 a0, .int .u64 a1, .int .u64 a2, .int .i64 a3]] w1 fun r w' => (∃ u, r = .returned (.tuple #[u, .int .i64 0]) ∧ w'.ownsRow w1.heap.size 5 1 u 64 ((enc a0 a1 a2 a3).map (Value.int .u8))) ∧ Below w1.heap.size w1 w') := Lib.hid (fun w1 => put_own a0 a1 a2 a3 w1 hv e0 e1 s0 s1)
  have GX : Hid (getV (enc a0 a1 a2 a3 ++ zs) = .tuple #[.agg #[.int .i64 a0, .int .u64 a1, .int .u64 a2, .int .i64 a3], .int .i64 0]) := Lib.hid (by
    have h := head_put hv e0 e1 s0 s1 zs
    unfold getV
    rw [if_neg (by rw [List.length_append, enc_len]; omega), h.2.2.2.2, h.1, h.2.1, h.2.2.1, h.2.2.2.1]
    rfl)
  have HEB : Hid (∀ n ∈ enc a0 a1 a2 a3 ++ zs, 0 ≤ n ∧ n ≤ 255) := Lib.hid (by
    intro n hn
    rcases List.mem_append.1 hn with h | h
    · exact enc_bd _ _ _ _ n h
    · exact hb.2.1 n h)
  have HLE : Hid ((enc a0 a1 a2 a3 ++ zs).length = 64 + len4) := Lib.hid (by rw [List.length_append, enc_len, hlz])
  have GM : Hid (∀ W, Below w.heap.size w W → Calls Try.prog 11 #[.slice a4 len4 cap4] W fun r w' => r = .returned (.tuple #[.agg #[.int .i64 k, .int .u64 e, .int .u64 s, .int .i64 n], .int .i64 0]) ∧ Below W.heap.size W w') := Lib.hid (fun W hW => hget_f hm w.heap.size _ _ cap4 W (hb.below hW) hW.size hcap hcm)
  have PM : Hid (∀ w1, Calls Try.prog 8 #[.agg #[.int .i64 k, .int .u64 e, .int .u64 s, .int .i64 n]] w1 fun r w' => (∃ u, r = .returned (.tuple #[u, .int .i64 0]) ∧ w'.ownsRow w1.heap.size 5 1 u 64 ((enc k e s n).map (Value.int .u8))) ∧ Below w1.heap.size w1 w') := Lib.hid (fun w1 => put_own k e s n w1 hv2 ee.1 ee.2 ss.1 ss.2)
  have HPE := Lib.hid hpe
  clear hm hv2 ee ss hpe
  clear hb hi hz0 hz1 hz2 hnil hv
  go_enter Try.func5, Try.ntmps5
  go_wp2_with fail
  refine (awake_any _).mono ?_
  rintro r v1 ⟨rfl, hb1⟩
  have HK1 := Lib.hid (Blk.new v1 #[.int .i64 a0, .int .u64 a1, .int .u64 a2, .int .i64 a3] 25)
  have HB1 : Hid (Below w.heap.size w (v1.alloc (.cells #[.int .i64 a0, .int .u64 a1, .int .u64 a2, .int .i64 a3] 25))) := Lib.hid (hb1.alloc hb1.size _)
  clear hb1
  go_wp2_with (go_at_call 8; refine (RP.out _).mono ?_)
  rintro r v2 ⟨⟨u, rfl, ho⟩, hb2⟩
  obtain ⟨g, c, rfl, hg⟩ := own_some ho (by decide)
  have HO := Lib.hid ho
  have HB2 := Lib.hid hb2
  have HZS := Lib.hid (HBY.out.below (HB1.out.trans (hb2.mono HB1.out.size)))
  clear ho hb2
  go_wp2_with (at_builtin; refine wpList_append_bys rfl _ _ 26 rfl _ 5 i0 (.int .u8 0) 1 Try.underlying26 HI.out HZ0.out HZ1.out HZ2.out rfl _ 64 _ rfl HO.out a4 len4 cap4 _ zs rfl HZS.out HNIL.out ?c1 ?c2 ?c3 ?_)
  case c1 => unfold maxLen; omega
  case c2 => omega
  case c3 => exact HB2.out.size
  intro v' v3 ho3 hg3
  rw [← List.map_append] at ho3
  obtain ⟨g3, c3, rfl, _⟩ := own_some ho3 (by omega)
  have hb3 := HB2.out.grown hg3 HB2.out.size (fun q e => (HO.out.lt q e).1)
  have hcap3 : 64 + len4 ≤ c3 ∧ (c3 : Int) ≤ 9223372036854775807 := by
    rcases ho3.2 with ⟨hx, _⟩ | ⟨g, c, cur, hx, _, _, h3, h4, _⟩
    · cases hx
    · injection hx with _ _ hx; subst hx; exact ⟨h3, by unfold maxLen at h4; omega⟩
  have G1 : Hid (Calls Try.prog 11 #[.slice (some ⟨g3, 0, none⟩) (64 + len4) c3] v3 fun r w' => r = .returned (.tuple #[.agg #[.int .i64 a0, .int .u64 a1, .int .u64 a2, .int .i64 a3], .int .i64 0]) ∧ Below v3.heap.size v3 w') := Lib.hid (hget_f GX.out _ _ _ c3 v3 (Bys.own HEB.out ho3) (Nat.le_refl _) hcap3.1 hcap3.2)
  have HB3 := Lib.hid hb3
  have HBW3 := Lib.hid (HB1.out.trans (hb3.mono HB1.out.size))
  have HK3 := Lib.hid (HK1.out.later hb3)
  clear ho3 hg3 hb3 hcap3
  go_wp2_with (go_at_call 11; refine G1.out.mono ?_)
  rintro r v4 ⟨rfl, hb4⟩
  have HK4 := Lib.hid ((HK3.out.later hb4).alloc (.cells #[.int .i64 a0, .int .u64 a1, .int .u64 a2, .int .i64 a3] 25))
  have HX4 := Lib.hid (Blk.new v4 #[.int .i64 a0, .int .u64 a1, .int .u64 a2, .int .i64 a3] 25)
  have HBW4 : Hid (Below w.heap.size w (v4.alloc (.cells #[.int .i64 a0, .int .u64 a1, .int .u64 a2, .int .i64 a3] 25))) := Lib.hid (by
    have h := HBW3.out.trans (hb4.mono HBW3.out.size)
    exact h.alloc h.size _)
  clear hb4
  go_wp2_with (go_at_call 11; refine (GM.out _ HBW4.out).mono ?_)
  rintro r v5 ⟨rfl, hb5⟩
  obtain ⟨q0, q1, q2, q3⟩ := ((HK4.out.later hb5).alloc (.cells #[.int .i64 k, .int .u64 e, .int .u64 s, .int .i64 n] 25)).c4
  obtain ⟨x0, x1, x2, x3⟩ := ((HX4.out.later hb5).alloc (.cells #[.int .i64 k, .int .u64 e, .int .u64 s, .int .i64 n] 25)).c4
  have HBW5 : Hid (Below w.heap.size w (v5.alloc (.cells #[.int .i64 k, .int .u64 e, .int .u64 s, .int .i64 n] 25))) := Lib.hid (by
    have h := HBW4.out.trans (hb5.mono HBW4.out.size)
    exact h.alloc h.size _)
  clear hb5
  go_wp2_with (go_at_call 8; refine (PM.out _).mono ?_)
  rintro r v6 ⟨⟨u, rfl, ho⟩, hb6⟩
  obtain ⟨g6, c6, rfl, _⟩ := own_some ho (by decide)
  have HBW6 := Lib.hid (HBW5.out.trans (hb6.mono HBW5.out.size))
  have hv1 := fun m => ((Bys.own (enc_bd k e s n) ho).drewN m).conv c6
  rw [HPE.out] at hv1
  obtain ⟨b, off, rfl, _⟩ := HBY.out.2.2 (by omega)
  have hv2 := fun m => (((HBY.out.below HBW6.out).sub (p := 0) (n := 64) (by omega)).drewN m).conv cap4
  simp only [Nat.add_zero] at hv2
  generalize strOfNums (piece zs 0 64) = S at hv1 hv2
  have h64 : (64 : Int) ≤ len4 := by omega
  have h64c : (64 : Int) ≤ cap4 := by omega
  have hSS : (S.toList == S.toList) = true := by simp
  clear ho hb6
  go_wp2
  go_quiet (fail)
  go_wp2
  go_ret
  exact ⟨ret_bool (by simp), below_drewN HBW6.out _⟩

set_option maxRecDepth 100000 in
set_option maxHeartbeats 1600000 in
theorem walk (a0 : Int) (a1 : Int) (a2 : Int) (a3 : Int) (a4 : Option Addr) (len4 cap4 : Nat) (z4 : List Int) (w : World) (w0 : (Lit.int .i64 a0).wf = true) (w1 : (Lit.int .u64 a1).wf = true) (w2 : (Lit.int .u64 a2).wf = true) (w3 : (Lit.int .i64 a3).wf = true) (w4 : IsRow .u8 w a4 len4 cap4 z4) :
    Calls Try.prog 5 #[.int .i64 a0, .int .u64 a1, .int .u64 a2, .int .i64 a3, .slice a4 len4 cap4] w fun e w' => e = .returned (.bool true) ∧ Below w.heap.size w w' := by
  obtain ⟨hb, hcap, hcm⟩ := w4.bys
  have hnil := w4.nil
  obtain ⟨e0, e1⟩ := bd_u64 w1
  obtain ⟨s0, s1⟩ := bd_u64 w2
  clear w0 w1 w2 w3 w4
  by_cases hl : len4 ≤ 2000
  · cases hv : validB a0 a3 with
    | false => exact core_no a0 a1 a2 a3 a4 len4 cap4 w hl hv
    | true =>
      have hlz := hb.1
      by_cases h64 : (z4.take len4).length < 64
      · exact core_er a0 a1 a2 a3 a4 len4 cap4 (z4.take len4) w hb hcap hcm hnil hl hv e0 e1 s0 s1 10 (by decide) (by unfold getV headV; rw [if_pos h64])
      · cases hh : isHead (z4.take len4) with
        | false => exact core_er a0 a1 a2 a3 a4 len4 cap4 (z4.take len4) w hb hcap hcm hnil hl hv e0 e1 s0 s1 11 (by decide) (by unfold getV headV; rw [if_neg h64, hh]; rfl)
        | true =>
          have hh2 := hh
          unfold isHead at hh2
          rw [Bool.and_eq_true, decide_eq_true_eq] at hh2
          exact core_ok a0 a1 a2 a3 a4 len4 cap4 (z4.take len4) w hb hcap hcm hnil hl hv e0 e1 s0 s1 _ _ _ _ (by omega) hh2.1 (eOf_bd hb.2.1 (by omega)) (sOf_bd hb.2.1 (by omega)) hh2.2 (by unfold getV headV; rw [if_neg h64, hh]; rfl)
  · have hli : (2000 : Int) < len4 := by omega
    have hli2 : (len4 : Int) ≤ 9223372036854775807 := by omega
    clear hb hnil hl
    go_enter Try.func5, Try.ntmps5
    go_wp2_with fail
    refine (awake_any _).mono ?_
    rintro r v1 ⟨rfl, hb1⟩
    have HB1 := Lib.hid hb1
    clear hb1
    go_wp2
    go_ret
    exact ⟨rfl, HB1.out⟩

set_option maxRecDepth 100000 in
theorem lifted (os : Os) (started : os.Started) (H : Type) (enc : TypeId × Value → H) :
    ReturnsInHanded {} Try.checked os 5 .any (Rows.headBackSpec.pre6 enc Try.prog Try.f5 Rows.headBackRow.domain false) (Rows.headBackSpec.post enc Try.prog Try.f5 false true false false) := by
  refine returnsInHanded_of_change (C := Try.checked) own started (by kernel_rfl) Try.func5
    (ChangeSpec.witness6 (enc := enc) (C := Try.checked) false ⟨#[], #[.int .i64 0, .int .u64 0, .int .u64 0, .int .i64 0, .slice none 0 0], []⟩ 8 (by kernel_rfl) (by kernel_rfl) (by kernel_rfl) (by kernel_rfl)) ?_
  intro W base args ds gs before hval0 hW hcnd _
  have hval : ∀ (j : Nat) t v, Try.f5.params[j]? = some t → args[j]? = some v → Value.okWide Try.prog W .any base t v := hval0
  have hW' := hW
  obtain ⟨p, q, hA0, hV, rfl, hfz, hnd⟩ := hW
  have hA : DataW.TrodAll enc Try.prog W 0 (fun _ => true) true Try.f5.params.toList args.toList ds p := hA0
  rw [Try.params5] at hA hval
  obtain ⟨v0, vs0, d0, ds0, p0, q0, hargs, rfl, rfl, h0, r0⟩ := trodAll_cons hA
  obtain ⟨v1, vs1, d1, ds1, p1, q1, rfl, rfl, rfl, h1, r1⟩ := trodAll_cons r0
  obtain ⟨v2, vs2, d2, ds2, p2, q2, rfl, rfl, rfl, h2, r2⟩ := trodAll_cons r1
  obtain ⟨v3, vs3, d3, ds3, p3, q3, rfl, rfl, rfl, h3, r3⟩ := trodAll_cons r2
  obtain ⟨v4, vs4, d4, ds4, p4, q4, rfl, rfl, rfl, h4, r4⟩ := trodAll_cons r3
  obtain ⟨rfl, rfl, rfl⟩ := trodAll_nil r4
  obtain rfl : args = #[v0, v1, v2, v3, v4] := by cases args; simp_all
  obtain ⟨rfl, rfl⟩ := trodVars_none hV
  obtain ⟨a0, rfl, rfl, rfl, w0⟩ := open_int Try.underlying3 (hval 0 3 v0 rfl rfl) h0
  obtain ⟨a1, rfl, rfl, rfl, w1⟩ := open_int Try.underlying22 (hval 1 22 v1 rfl rfl) h1
  obtain ⟨a2, rfl, rfl, rfl, w2⟩ := open_int Try.underlying22 (hval 2 22 v2 rfl rfl) h2
  obtain ⟨a3, rfl, rfl, rfl, w3⟩ := open_int Try.underlying3 (hval 3 3 v3 rfl rfl) h3
  obtain ⟨a4, len4, cap4, rfl⟩ := okWide_slice Try.underlying26 (hval 4 26 v4 rfl rfl)
  have k4 := h4
  have lt4 : ∀ x ∈ p4, x.block < W.heap.size := by obtain ⟨m, hm⟩ := k4; exact DataW.trod_lt m _ _ _ hm
  obtain ⟨z4, w4⟩ : ∃ zs, IsRow .u8 W a4 len4 cap4 zs := by
    obtain ⟨fuel, hf⟩ := h4
    rcases open_ints Try.underlying26 Try.underlying5 (by kernel_rfl) hf with ⟨hcs, _⟩ | ⟨x, l, c, zs, hcs, _, hl, hm, hz, _, hcell, hwz⟩
    · simp [Value.cells] at hcs
      obtain ⟨rfl, rfl, rfl⟩ := hcs
      exact ⟨[], .inl ⟨rfl, rfl, rfl, rfl⟩⟩
    · simp [Value.cells] at hcs
      obtain ⟨rfl, rfl, rfl⟩ := hcs
      exact ⟨zs, .inr ⟨_, rfl, hl, hm, by simpa using hz, hcell, hwz⟩⟩
  clear hA0 hval0
  refine (walk a0 a1 a2 a3 a4 len4 cap4 z4 W w0 w1 w2 w3 w4).mono fun e W' ⟨he, bel⟩ => ?_
  subst he
  exact ⟨_, rfl, _, _, _, [], _, [], hW', trodAll_mk1 (shut_bool Try.underlying4 _), (trodAll_cons_mk (shut_int Try.underlying3 w0) (trodAll_cons_mk (shut_int Try.underlying22 w1) (trodAll_cons_mk (shut_int Try.underlying22 w2) (trodAll_cons_mk (shut_int Try.underlying3 w3) (trodAll_cons_mk (Below.trod laidOut (by kernel_rfl) (of_decide_eq_true (by kernel_rfl)) k4 bel lt4) trodAll_mk0))))), rfl, bel.frame _, fun h => by cases h⟩

theorem over : Rows.headBackRow.holds Try.pinned (OpenSpec.ofChange Rows.headBackSpec) :=
  OpenClaim.holds_of_wide 5 Try.f5 rfl rfl rfl rfl rfl rfl rfl ⟨rfl, rfl, rfl, rfl, rfl⟩ rfl rfl rfl rfl rfl (by kernel_rfl) Try.func5 (by kernel_rfl)
    (of_decide_eq_true (by kernel_rfl)) (by unfold Func.isWrapper; first | (rw [if_pos (by decide +kernel)]; kernel_rfl) | (rw [if_neg (by decide +kernel)]; exact ⟨rfl, rfl⟩))
    (fun os started H enc _ => lifted os started H enc)

theorem proved : Rows.HeadBackSaid := over
#print axioms proved
end Go.Proofs.Ytmhigmfifpbmaaa.headBack
