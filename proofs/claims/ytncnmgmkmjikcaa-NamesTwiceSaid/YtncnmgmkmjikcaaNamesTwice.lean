/-
  What is proved here: the law NamesTwice: for every input it returns true and leaves its argument as it was.
  Conditions: none of our own; the law's row says what its input is.
-/
import Derived.Test.YtncnmgmkmjikcaaRows
import Derived.Test.YtncnmgmkmjikcaaNamTwice
import Derived.WalkKit
import Derived.ProofKit
import Derived.OpenShut
import Derived.ShutString
import Derived.ChangeOld
import Derived.Below
namespace Go.Proofs.Ytncnmgmkmjikcaa.namesTwice
open Go.ChangeShapes Go.WideShapes Go.ChangeAt Go.RowKit
open Go.ChangeMaps (open_string shut_string)
set_option linter.unusedVariables false

theorem own : ownKnob Try.prog.godebug = none := by kernel_rfl
theorem laidOut : laidOutB Try.prog = true := by kernel_rfl

set_option maxRecDepth 100000 in
set_option maxHeartbeats 1600000 in
/-- The law's road. -/
theorem core (a : Option Addr) (len cap : Nat) (L : List ByteArray) (R O O2 : List Int) (er : Int) (w : World) (hs : Strs w w.heap.size a len L) (hl : (len : Int) ≤ 25) (hca : a = none → cap = 0) (hsz : ∀ i, (nm L i).size ≤ 2000)
    (hr : Res L R O er) (hr2 : Res (L ++ L) R O2 er) (hq2 : O2.length = 2 * O.length) (hpt : ∀ i, i < O.length → O2.getD i 0 = O.getD i 0 ∧ O2.getD (O.length + i) 0 = O.getD i 0) (hO : O.length ≤ 1000)
    (HL : Hid (∀ W : World, Below w.heap.size w W → Calls Try.prog 14 #[.slice a len cap] W fun e W' => e = .returned (.bool false) ∧ W = W')) :
    Calls Try.prog 8 #[.slice a len cap] w fun e w' => e = .returned (.bool true) ∧ Below w.heap.size w w' := by
  obtain ⟨i0, hi, hz0, hz1, hz2⟩ := info_parts info_str
  have HI := Lib.hid hi
  have HZ0 := Lib.hid hz0
  have HZ1 := Lib.hid hz1
  have HZ2 := Lib.hid hz2
  have HST := Lib.hid hs
  have HCA := Lib.hid hca
  have HSZ := Lib.hid hsz
  have HSZ2 : Hid (∀ i, (nm (L ++ L) i).size ≤ maxLen) := Lib.hid (fun i => Nat.le_trans (nm_twice_le hsz i) (by unfold maxLen; omega))
  have HR2 := Lib.hid hr2
  have HPT := Lib.hid hpt
  have HRB := Lib.hid hr.bd
  have hg : Gives 15 (.slice a len cap) w R O er := build_gives cap hs (by omega) (fun i => Nat.le_trans (hsz i) (by unfold maxLen; omega)) hr
  obtain ⟨m, hm⟩ : ∃ m, m = R.length := ⟨_, rfl⟩
  obtain ⟨q, hq⟩ : ∃ q, q = O.length := ⟨_, rfl⟩
  unfold Gives at hg
  rw [← hm, ← hq] at hg
  rw [← hq] at hq2 hO HPT
  obtain ⟨q2, hqd⟩ : ∃ q2, q2 = 2 * q := ⟨_, rfl⟩
  rw [← hqd] at hq2
  have hqi : (q : Int) ≤ 1000 := by omega
  have HG := Lib.hid hg
  have HM := Lib.hid hm
  have HQ := Lib.hid hq
  have HQ2 := Lib.hid hq2
  have HQD := Lib.hid hqd
  clear hi hz0 hz1 hz2 hs hca hsz hr hr2 hq2 hpt hg hm hq hO hqd
  go_enter Try.func8, Try.ntmps8
  go_wp2_with fail
  refine (awake_any _).mono ?_
  rintro e w1 ⟨rfl, hb1⟩
  go_wp2_with fail
  refine (HL.out _ hb1).mono ?_
  rintro e w' ⟨rfl, rfl⟩
  go_wp2_with (at_builtin; refine wpList_append_strs rfl _ _ 30 rfl w1.heap.size 9 i0 (.string .empty) 16 Try.underlying30 HI.out HZ0.out HZ1.out HZ2.out rfl (.slice none 0 0) 0 [] rfl (World.ownsRow_nil _ _ _ _) a len cap w.heap.size L rfl (HST.out.below hb1) HCA.out ?c1 ?c2 ?c3 ?_)
  case c1 => unfold maxLen; omega
  case c2 => omega
  case c3 => exact Nat.le_refl _
  intro v2 w2 hv2 hg2
  have hb2 : Below w1.heap.size w1 w2 := (Below.refl _ _).grown hg2 (Nat.le_refl _) (fun _ e => by cases e)
  have hbw2 := hb1.trans (hb2.mono hb1.size)
  have HV2 := Lib.hid hv2
  clear hv2 hg2
  go_wp2_with (at_builtin; refine wpList_append_strs rfl _ _ 30 rfl w1.heap.size 9 i0 (.string .empty) 16 Try.underlying30 HI.out HZ0.out HZ1.out HZ2.out rfl _ len _ rfl HV2.out a len cap w.heap.size L rfl (HST.out.below hbw2) HCA.out ?d1 ?d2 ?d3 ?_)
  case d1 => unfold maxLen; omega
  case d2 => omega
  case d3 => exact hb2.size
  intro v3 w3 hv3 hg3
  have hb3 : Below w1.heap.size w1 w3 := hb2.grown hg3 hb2.size (fun q e => (HV2.out.lt q e).1)
  have hbw3 := hb1.trans (hb3.mono hb1.size)
  obtain ⟨va, vc, rfl⟩ := own_slice hv3
  rw [← List.map_append] at hv3
  have HV3 := Lib.hid hv3
  clear hv3 hg3
  go_wp2_with fail
  refine (HG.out _ hbw3).mono ?_
  rintro e w4 ⟨ta, tc, pa, pc, rfl, hR4, hO4, hb4⟩
  have hbw4 := hbw3.trans (hb4.mono hbw3.size)
  have HR4 := Lib.hid hR4
  have HO4 := Lib.hid hO4
  have hg5 : Gives 15 (.slice va (len + len) vc) w4 R O2 er := build_gives vc ((Strs.own (own_below HV3.out hb4))) (by omega) HSZ2.out HR2.out
  unfold Gives at hg5
  rw [← HM.out, HQ2.out] at hg5
  have HG5 := Lib.hid hg5
  clear hR4 hO4 hg5
  go_wp2_with fail
  refine (HG5.out _ (Below.refl _ _)).mono ?_
  rintro e w5 ⟨ua, uc, qa, qc, rfl, hR5, hO5, hb5⟩
  have hbw5 := hbw4.trans (hb5.mono hbw4.size)
  have hc5 := ((Bys.own HRB.out (HM.out ▸ HR4.out)).below hb5).conv tc
  rw [← HM.out] at hc5
  have hd5 := (Bys.own HRB.out (HM.out ▸ hR5)).conv uc
  rw [← HM.out] at hd5
  have HP5 := Lib.hid (own_below HO4.out hb5)
  have HQ5 := Lib.hid hO5
  clear hR5 hO5
  have hqq : ((q2 : Int) == 2 * (q : Int)) = true := by rw [beq_iff_eq]; have := HQD.out; omega
  have hq2i : (q2 : Int) ≤ 2000 := by have := HQD.out; omega
  rcases Bool.eq_false_or_eq_true (er == 0) with he | he
  all_goals
    go_wp2_with fail
    go_loopw [12] (fun i wr => ∃ k : Nat, k ≤ q ∧ i = .int .i64 k ∧ wr.ownsRow w3.heap.size 23 1 (.slice pa q pc) q (O.map (Value.int .u64)) ∧ wr.ownsRow w4.heap.size 23 1 (.slice qa q2 qc) q2 (O2.map (Value.int .u64)) ∧ Below w.heap.size w wr) (fun i _ => q - (intOf i).toNat)
    case atStart => exact ⟨0, Nat.zero_le _, rfl, HP5.out, HQ5.out, hbw5⟩
    case round =>
      obtain ⟨k, hk, rfl, hp, hq, hbel⟩ := hrel
      have HP := Lib.hid hp
      have HQW := Lib.hid hq
      have HBL := Lib.hid hbel
      by_cases hlt : k < q
      · obtain ⟨g, c, hv, _⟩ := own_some hp (by omega)
        injection hv with hv1 hv2 hv3
        subst hv1; subst hv3; clear hv2
        obtain ⟨g', c', hv', _⟩ := own_some hq (by have := HQD.out; omega)
        injection hv' with hv1' hv2' hv3'
        subst hv1'; subst hv3'; clear hv2'
        have hc1 := hp.cellAt k (by omega)
        have hc2 := hq.cellAt k (by have := HQD.out; omega)
        have hc3 := hq.cellAt (q + k) (by have := HQD.out; omega)
        rw [getElem_map_u64 (by have := HQ.out; omega)] at hc1
        rw [getElem_map_u64 (by have := HQ2.out; have := HQD.out; omega), (HPT.out k hlt).1] at hc2
        rw [getElem_map_u64 (by have := HQ2.out; have := HQD.out; omega), (HPT.out k hlt).2] at hc3
        generalize O.getD k 0 = y at hc1 hc2 hc3
        have hk1 : (k : Int) < (q : Int) := by omega
        have hk2 : (k : Int) < (q2 : Int) := by have := HQD.out; omega
        have hk3 : k < q2 := by have := HQD.out; omega
        have hk4 : q + k < q2 := by have := HQD.out; omega
        have hk5 : 0 ≤ (q : Int) + (k : Int) := by omega
        have hk6 : ((q : Int) + (k : Int)).toNat = q + k := by omega
        have hk7 : IntKind.i64.wrap ((q : Int) + (k : Int)) = (q : Int) + (k : Int) := IntWalk.i64_in _ (by omega)
        have hk8 : (q : Int) + (k : Int) < (q2 : Int) := by have := HQD.out; omega
        clear hp hq hbel
        go_wp2_with fail
        go_quiet (fail)
        clear hk6 hk7
        go_wp2
        go_roundw
        case rel => exact ⟨k + 1, by omega, by go_num, own_drewN HP.out _, own_drewN HQW.out _, below_drewN HBL.out _⟩
        case measure => simp [intOf]; omega
      · clear hp hq hbel
        go_wp2
        go_ret
        exact ⟨rfl, HBL.out⟩
/-- Where the names are too many, or too long. -/
theorem over0 (a : Option Addr) (len cap : Nat) (w : World)
    (HL : Hid (∀ W : World, Below w.heap.size w W → Calls Try.prog 14 #[.slice a len cap] W fun e W' => e = .returned (.bool true) ∧ W = W')) :
    Calls Try.prog 8 #[.slice a len cap] w fun e w' => e = .returned (.bool true) ∧ Below w.heap.size w w' := by
  go_enter Try.func8, Try.ntmps8
  go_wp2_with fail
  refine (awake_any _).mono ?_
  rintro e w1 ⟨rfl, hb1⟩
  go_wp2_with (go_at_call 14; refine (HL.out _ hb1).mono ?_; rintro e w' ⟨rfl, rfl⟩)
  go_ret
  exact ⟨rfl, hb1⟩
theorem over25 (a : Option Addr) (len cap : Nat) (w : World) (hl : (25 : Int) < (len : Int)) (hl2 : (len : Int) ≤ 60)
    (HL : Hid (∀ W : World, Below w.heap.size w W → Calls Try.prog 14 #[.slice a len cap] W fun e W' => e = .returned (.bool false) ∧ W = W')) :
    Calls Try.prog 8 #[.slice a len cap] w fun e w' => e = .returned (.bool true) ∧ Below w.heap.size w w' := by
  go_enter Try.func8, Try.ntmps8
  go_wp2_with fail
  refine (awake_any _).mono ?_
  rintro e w1 ⟨rfl, hb1⟩
  go_wp2_with (go_at_call 14; refine (HL.out _ hb1).mono ?_; rintro e w' ⟨rfl, rfl⟩)
  go_ret
  exact ⟨rfl, hb1⟩
set_option maxRecDepth 100000 in
set_option maxHeartbeats 1600000 in
theorem walk (a0 : Option Addr) (len0 cap0 : Nat) (z0 : List ByteArray) (w : World) (w0 : IsStrs w a0 len0 cap0 z0) :
    Calls Try.prog 8 #[.slice a0 len0 cap0] w fun e w' => e = .returned (.bool true) ∧ Below w.heap.size w w' := by
  obtain ⟨hs, hcap, hcm, hsz⟩ := w0.strs
  have hca : a0 = none → cap0 = 0 := by
    intro e
    rcases w0 with ⟨_, _, h, _⟩ | ⟨x, h, _⟩
    · exact h
    · rw [e] at h; cases h
  have hl : (len0 : Int) ≤ 9223372036854775807 := by omega
  by_cases h60 : len0 ≤ 60
  · rcases long_or (z0.take len0) len0 hs.1 with hz | ⟨n, h1, h2, h3⟩
    · by_cases h25 : len0 ≤ 25
      · obtain ⟨R, O, er, hr⟩ := res_ex (z0.take len0)
        have hO : O.length ≤ 1000 := by
          rcases hr with ⟨_, _, rfl, _⟩ | ⟨_, _, rfl, _⟩ | ⟨_, _, rfl, _⟩
          · simp
          · simp
          · rw [outs_len, hs.1]; omega
        obtain ⟨O2, hr2, hq2, hpt⟩ := res_twice hr
        exact core a0 len0 cap0 _ R O O2 er w hs (by omega) hca hz hr hr2 hq2 hpt hO (Lib.hid fun W hW => long_no _ _ _ _ _ W (hs.below hW) h60 hz)
      · exact over25 a0 len0 cap0 w (by omega) (by omega) (Lib.hid fun W hW => long_no _ _ _ _ _ W (hs.below hW) h60 hz)
    · exact over0 a0 len0 cap0 w (Lib.hid fun W hW => long_big _ _ _ _ _ W n (hs.below hW) h60 hsz h1 h2 h3)
  · exact over0 a0 len0 cap0 w (Lib.hid fun W hW => long_many _ _ _ W (by omega) hl)

set_option maxRecDepth 100000 in
theorem lifted (os : Os) (started : os.Started) (H : Type) (enc : TypeId × Value → H) :
    ReturnsInHanded {} Try.checked os 8 .any (Rows.namesTwiceSpec.pre6 enc Try.prog Try.f8 Rows.namesTwiceRow.domain false) (Rows.namesTwiceSpec.post enc Try.prog Try.f8 false true false false) := by
  refine returnsInHanded_of_change (C := Try.checked) own started (by kernel_rfl) Try.func8
    (ChangeSpec.witness6 (enc := enc) (C := Try.checked) false ⟨#[], #[.slice none 0 0], []⟩ 8 (by kernel_rfl) (by kernel_rfl) (by kernel_rfl) (by kernel_rfl)) ?_
  intro W base args ds gs before hval0 hW hcnd _
  have hval : ∀ (j : Nat) t v, Try.f8.params[j]? = some t → args[j]? = some v → Value.okWide Try.prog W .any base t v := hval0
  have hW' := hW
  obtain ⟨p, q, hA0, hV, rfl, hfz, hnd⟩ := hW
  have hA : DataW.TrodAll enc Try.prog W 0 (fun _ => true) true Try.f8.params.toList args.toList ds p := hA0
  rw [Try.params8] at hA hval
  obtain ⟨v0, vs0, d0, ds0, p0, q0, hargs, rfl, rfl, h0, r0⟩ := trodAll_cons hA
  obtain ⟨rfl, rfl, rfl⟩ := trodAll_nil r0
  obtain rfl : args = #[v0] := by cases args; simp_all
  obtain ⟨rfl, rfl⟩ := trodVars_none hV
  obtain ⟨a0, len0, cap0, rfl⟩ := okWide_slice Try.underlying30 (hval 0 30 v0 rfl rfl)
  have k0 := h0
  have lt0 : ∀ x ∈ p0, x.block < W.heap.size := by obtain ⟨m, hm⟩ := k0; exact DataW.trod_lt m _ _ _ hm
  obtain ⟨z0, w0⟩ : ∃ zs, IsStrs W a0 len0 cap0 zs := by
    obtain ⟨fuel, hf⟩ := h0
    rcases open_strings Try.underlying30 Try.underlying9 (by kernel_rfl) hf with ⟨hcs, _⟩ | ⟨x, l, c, zs, hcs, _, hl, hm, hz, _, hcell, hwz⟩
    · simp [Value.cells] at hcs
      obtain ⟨rfl, rfl, rfl⟩ := hcs
      exact ⟨[], .inl ⟨rfl, rfl, rfl, rfl⟩⟩
    · simp [Value.cells] at hcs
      obtain ⟨rfl, rfl, rfl⟩ := hcs
      exact ⟨zs, .inr ⟨_, rfl, hl, hm, by simpa using hz, hcell, hwz⟩⟩
  clear hA0 hval0
  refine (walk a0 len0 cap0 z0 W w0).mono fun e W' ⟨he, bel⟩ => ?_
  subst he
  exact ⟨_, rfl, _, _, _, [], _, [], hW', trodAll_mk1 (shut_bool Try.underlying4 _), (trodAll_cons_mk (Below.trod laidOut (by kernel_rfl) (of_decide_eq_true (by kernel_rfl)) k0 bel lt0) trodAll_mk0), rfl, bel.frame _, fun h => by cases h⟩

theorem over : Rows.namesTwiceRow.holds Try.pinned (OpenSpec.ofChange Rows.namesTwiceSpec) :=
  OpenClaim.holds_of_wide 8 Try.f8 rfl rfl rfl rfl rfl rfl rfl ⟨rfl, rfl, rfl, rfl, rfl⟩ rfl rfl rfl rfl rfl (by kernel_rfl) Try.func8 (by kernel_rfl)
    (of_decide_eq_true (by kernel_rfl)) (by unfold Func.isWrapper; first | (rw [if_pos (by decide +kernel)]; kernel_rfl) | (rw [if_neg (by decide +kernel)]; exact ⟨rfl, rfl⟩))
    (fun os started H enc _ => lifted os started H enc)

theorem proved : Rows.NamesTwiceSaid := over
#print axioms proved
end Go.Proofs.Ytncnmgmkmjikcaa.namesTwice
