/-
  What is proved here: HeadBytes: 64 bytes with any kind, places, count, and any one other byte, are the head that the document says, or refused, as the reference tells.
  Conditions: none of our own; the law's row says what its input is.
-/
import Derived.Test.YtmhigmfifpbmaaaRows
import Derived.Test.YtmhigmfifpbmaaaHeaGot
import Derived.WalkKit
import Derived.ProofKit
import Derived.OpenShut
import Derived.ShutString
import Derived.ChangeOld
import Derived.Below
namespace Go.Proofs.Ytmhigmfifpbmaaa.headBytes
open Go.ChangeShapes Go.WideShapes Go.ChangeAt Go.RowKit
open Go.ChangeMaps (open_string shut_string)
set_option linter.unusedVariables false

theorem own : ownKnob Try.prog.godebug = none := by kernel_rfl
theorem laidOut : laidOutB Try.prog = true := by kernel_rfl

/-- The bytes with kind and count laid over them. -/
def laid (e s k c : Int) : List Int := ((((enc 2 e s 1).set 16 (k % 256)).set 17 (k / 256)).set 56 (c % 256)).set 57 (c / 256)
theorem set_bd {zs : List Int} (h : ∀ n ∈ zs, 0 ≤ n ∧ n ≤ 255) (i : Nat) {x : Int} (h0 : 0 ≤ x) (h1 : x ≤ 255) : ∀ n ∈ zs.set i x, 0 ≤ n ∧ n ≤ 255 := by
  intro n hn
  rcases List.mem_or_eq_of_mem_set hn with h' | rfl
  · exact h n h'
  · exact ⟨h0, h1⟩
theorem laid_bd {e s k c : Int} (k0 : 0 ≤ k) (k1 : k ≤ 65535) (c0 : 0 ≤ c) (c1 : c ≤ 65535) : ∀ n ∈ laid e s k c, 0 ≤ n ∧ n ≤ 255 := by
  unfold laid
  exact set_bd (set_bd (set_bd (set_bd (enc_bd _ _ _ _) _ (by omega) (by omega)) _ (by omega) (by omega)) _ (by omega) (by omega)) _ (by omega) (by omega)
theorem laid_len (e s k c : Int) : (laid e s k c).length = 64 := by simp only [laid, List.length_set, enc_len]
/-- The four stores, on a row of the call's own. -/
theorem stored4 {w : World} {base g c : Nat} {e s k n : Int} (ho : w.ownsRow base 5 1 (.slice (some ⟨g, 0, none⟩) 64 c) 64 ((enc 2 e s 1).map (Value.int .u8))) :
    ((((w.setCell ⟨g, 16, none⟩ (.int .u8 (k % 256))).setCell ⟨g, 17, none⟩ (.int .u8 (k / 256))).setCell ⟨g, 56, none⟩ (.int .u8 (n % 256))).setCell ⟨g, 57, none⟩ (.int .u8 (n / 256))).ownsRow base 5 1 (.slice (some ⟨g, 0, none⟩) 64 c) 64 ((laid e s k n).map (Value.int .u8)) := by
  have h := ((((ho.stored 16 (.int .u8 (k % 256))).1.stored 17 (.int .u8 (k / 256))).1.stored 56 (.int .u8 (n % 256))).1.stored 57 (.int .u8 (n / 256))).1
  rw [map_set_u8, map_set_u8, map_set_u8, map_set_u8] at h
  exact h
set_option maxRecDepth 100000 in
set_option maxHeartbeats 1600000 in
theorem walk (a0 : Int) (a1 : Int) (a2 : Int) (a3 : Int) (a4 : Int) (a5 : Int) (w : World) (w0 : (Lit.int .u16 a0).wf = true) (w1 : (Lit.int .u64 a1).wf = true) (w2 : (Lit.int .u64 a2).wf = true) (w3 : (Lit.int .u16 a3).wf = true) (w4 : (Lit.int .u8 a4).wf = true) (w5 : (Lit.int .u8 a5).wf = true) :
    Calls Try.prog 6 #[.int .u16 a0, .int .u64 a1, .int .u64 a2, .int .u16 a3, .int .u8 a4, .int .u8 a5] w fun e w' => e = .returned (.bool true) ∧ Below w.heap.size w w' := by
  obtain ⟨e0, e1⟩ := bd_u64 w1
  obtain ⟨s0, s1⟩ := bd_u64 w2
  have RR : Hid (∀ w1, Calls Try.prog 9 #[.agg #[.int .i64 2, .int .u64 a1, .int .u64 a2, .int .i64 1]] w1 fun r w' => (∃ u, r = .returned (.tuple #[u, .int .i64 0]) ∧ w'.ownsRow w1.heap.size 5 1 u 64 ((enc 2 a1 a2 1).map (Value.int .u8))) ∧ Below w1.heap.size w1 w') := Lib.hid (fun w1 => rput_ok 2 a1 a2 1 w1 (by decide) e0 e1 s0 s1)
  have HEL := Lib.hid (enc_len 2 a1 a2 1)
  have bk : 0 ≤ a0 ∧ a0 ≤ 65535 := by simpa [Lit.wf, IntKind.min, IntKind.max, IntKind.signed, IntKind.bits] using w0
  have bc : 0 ≤ a3 ∧ a3 ≤ 65535 := by simpa [Lit.wf, IntKind.min, IntKind.max, IntKind.signed, IntKind.bits] using w3
  have ba : 0 ≤ a4 ∧ a4 ≤ 255 := by simpa [Lit.wf, IntKind.min, IntKind.max, IntKind.signed, IntKind.bits] using w4
  have bv : 0 ≤ a5 ∧ a5 ≤ 255 := by simpa [Lit.wf, IntKind.min, IntKind.max, IntKind.signed, IntKind.bits] using w5
  clear w0 w1 w2 w3 w4 w5
  obtain ⟨k0, k1⟩ := bk
  obtain ⟨c0, c1⟩ := bc
  obtain ⟨p0, p1⟩ := ba
  obtain ⟨b0, b1⟩ := bv
  have HLB := Lib.hid (laid_bd (e := a1) (s := a2) k0 k1 c0 c1)
  by_cases hlt : a4 < 64
  · obtain ⟨p, rfl⟩ := Int.eq_ofNat_of_zero_le p0
    have hpn : p < 64 := by omega
    obtain ⟨k, e, s, n, er, hf⟩ := getV_form ((laid a1 a2 a0 a3).set p a5)
    have HF := Lib.hid hf
    have RM : Hid (∀ w1, Calls Try.prog 10 #[.agg #[.int .i64 k, .int .u64 e, .int .u64 s, .int .i64 n]] w1 fun r w' => r = .returned (.agg #[.int .i64 k, .int .u64 e, .int .u64 s, .int .i64 n]) ∧ Below w1.heap.size w1 w') := Lib.hid (fun w1 => model_any k e s n w1)
    clear hf
    go_enter Try.func6, Try.ntmps6
    go_wp2_with fail
    refine (awake_any _).mono ?_
    rintro r v1 ⟨rfl, hb1⟩
    have HB1 := Lib.hid hb1
    clear hb1
    go_wp2_with (go_at_call 9; refine (RR.out _).mono ?_)
    rintro r v2 ⟨⟨u, rfl, ho⟩, hb2⟩
    obtain ⟨g, c, rfl, hg⟩ := own_some ho (by decide)
    have q16 := ho.cellAt 16 (by decide)
    have q17 := ho.cellAt 17 (by decide)
    have q56 := ho.cellAt 56 (by decide)
    have q57 := ho.cellAt 57 (by decide)
    rw [getElem_map_u8 (by rw [HEL.out]; decide)] at q16 q17 q56 q57
    have f16 := ho.frozenAt 16
    have f17 := ho.frozenAt 17
    have f56 := ho.frozenAt 56
    have f57 := ho.frozenAt 57
    have qp := (stored4 (k := a0) (n := a3) ho).cellAt p (by omega)
    rw [getElem_map_u8 (by rw [laid_len]; exact hpn)] at qp
    have fp := (stored4 (k := a0) (n := a3) ho).frozenAt p
    obtain ⟨X, hX⟩ : ∃ X, X = ((((v2.setCell ⟨g, 16, none⟩ (.int .u8 (a0 % 256))).setCell ⟨g, 17, none⟩ (.int .u8 (a0 / 256))).setCell ⟨g, 56, none⟩ (.int .u8 (a3 % 256))).setCell ⟨g, 57, none⟩ (.int .u8 (a3 / 256))).setCell ⟨g, p, none⟩ (.int .u8 a5) := ⟨_, rfl⟩
    have hoX : X.ownsRow v1.heap.size 5 1 (.slice (some ⟨g, 0, none⟩) 64 c) 64 (((laid a1 a2 a0 a3).set p a5).map (Value.int .u8)) := by
      have := ((stored4 (k := a0) (n := a3) ho).stored p (.int .u8 a5)).1
      rw [map_set_u8] at this
      rw [hX]; exact this
    have hbX : Below v1.heap.size v1 X := by rw [hX]; exact ((((hb2.setCell hg _).setCell hg _).setCell hg _).setCell hg _).setCell hg _
    have hcap : 64 ≤ c ∧ (c : Int) ≤ 9223372036854775807 := by
      rcases ho.2 with ⟨hx, _⟩ | ⟨g, c, cur, hx, _, _, h3, h4, _⟩
      · cases hx
      · injection hx with _ _ hx; subst hx; exact ⟨h3, by unfold maxLen at h4; omega⟩
    have HBX := Lib.hid (HB1.out.trans (hbX.mono HB1.out.size))
    have G1 : Hid (Calls Try.prog 11 #[.slice (some ⟨g, 0, none⟩) 64 c] X fun r w' => r = .returned (.tuple #[.agg #[.int .i64 k, .int .u64 e, .int .u64 s, .int .i64 n], .int .i64 er]) ∧ Below X.heap.size X w') := Lib.hid (hget_f HF.out _ _ 64 c X (Bys.own (set_bd HLB.out p b0 b1) hoX) (Nat.le_refl _) hcap.1 hcap.2)
    have G2 : Hid (∀ W, Below X.heap.size X W → Calls Try.prog 12 #[.slice (some ⟨g, 0, none⟩) 64 c] W fun r w' => r = .returned (.tuple #[.agg #[.int .i64 k, .int .u64 e, .int .u64 s, .int .i64 n], .int .i64 er]) ∧ Below W.heap.size W w') := Lib.hid (fun W hW => rhget_f HF.out X.heap.size _ 64 c W ((Bys.own (set_bd HLB.out p b0 b1) hoX).below hW) hW.size hcap.1 hcap.2)
    have HXE := Lib.hid hX
    clear ho hb2 hoX hbX hcap hX
    go_wp2_with (go_at_call 11; rw [← HXE.out]; refine G1.out.mono ?_)
    rintro r v3 ⟨rfl, hb3⟩
    have hV1 := hb3.alloc hb3.size (.cells #[.int .i64 k, .int .u64 e, .int .u64 s, .int .i64 n] 25)
    have hk1 := Blk.new v3 #[.int .i64 k, .int .u64 e, .int .u64 s, .int .i64 n] 25
    have HV1 := Lib.hid hV1
    have HK1 := Lib.hid hk1
    clear hb3 hV1 hk1 q16 q17 q56 q57 f16 f17 f56 f57 qp fp
    go_wp2_with (go_at_call 12; refine (G2.out _ HV1.out).mono ?_)
    rintro r v4 ⟨rfl, hb4⟩
    have htw := two_of ((HK1.out.later hb4).alloc (.cells #[.int .i64 k, .int .u64 e, .int .u64 s, .int .i64 n] 31)) (Blk.new v4 #[.int .i64 k, .int .u64 e, .int .u64 s, .int .i64 n] 31)
    obtain ⟨⟨q0, q1, q2, q3, r0, r1, r2, r3⟩, htl⟩ := htw
    have HTL := Lib.hid htl
    have HV2 : Hid (Below w.heap.size w (v4.alloc (.cells #[.int .i64 k, .int .u64 e, .int .u64 s, .int .i64 n] 31))) := Lib.hid (by
      have h1 := HBX.out.trans (HV1.out.mono HBX.out.size)
      have h2 := h1.trans (hb4.mono h1.size)
      exact h2.alloc h2.size _)
    clear hb4 htl
    go_wp2
    go_region_with (go_at_call 10; refine (RM.out _).mono ?_; rintro r w' ⟨rfl, hbm⟩; obtain ⟨z0, z1, z2, z3, y0, y1, y2, y3⟩ := HTL.out _ hbm; have HBM := Lib.hid hbm; clear hbm)
    all_goals
      go_wp2
      go_ret
      exact ⟨ret_bool (by simp), HV2.out.drew.trans (HBM.out.mono HV2.out.size)⟩
  · obtain ⟨k, e, s, n, er, hf⟩ := getV_form (laid a1 a2 a0 a3)
    have HF := Lib.hid hf
    have RM : Hid (∀ w1, Calls Try.prog 10 #[.agg #[.int .i64 k, .int .u64 e, .int .u64 s, .int .i64 n]] w1 fun r w' => r = .returned (.agg #[.int .i64 k, .int .u64 e, .int .u64 s, .int .i64 n]) ∧ Below w1.heap.size w1 w') := Lib.hid (fun w1 => model_any k e s n w1)
    clear hf
    go_enter Try.func6, Try.ntmps6
    go_wp2_with fail
    refine (awake_any _).mono ?_
    rintro r v1 ⟨rfl, hb1⟩
    have HB1 := Lib.hid hb1
    clear hb1
    go_wp2_with (go_at_call 9; refine (RR.out _).mono ?_)
    rintro r v2 ⟨⟨u, rfl, ho⟩, hb2⟩
    obtain ⟨g, c, rfl, hg⟩ := own_some ho (by decide)
    have q16 := ho.cellAt 16 (by decide)
    have q17 := ho.cellAt 17 (by decide)
    have q56 := ho.cellAt 56 (by decide)
    have q57 := ho.cellAt 57 (by decide)
    rw [getElem_map_u8 (by rw [HEL.out]; decide)] at q16 q17 q56 q57
    have f16 := ho.frozenAt 16
    have f17 := ho.frozenAt 17
    have f56 := ho.frozenAt 56
    have f57 := ho.frozenAt 57
    obtain ⟨X, hX⟩ : ∃ X, X = (((v2.setCell ⟨g, 16, none⟩ (.int .u8 (a0 % 256))).setCell ⟨g, 17, none⟩ (.int .u8 (a0 / 256))).setCell ⟨g, 56, none⟩ (.int .u8 (a3 % 256))).setCell ⟨g, 57, none⟩ (.int .u8 (a3 / 256)) := ⟨_, rfl⟩
    have hoX : X.ownsRow v1.heap.size 5 1 (.slice (some ⟨g, 0, none⟩) 64 c) 64 ((laid a1 a2 a0 a3).map (Value.int .u8)) := by rw [hX]; exact stored4 ho
    have hbX : Below v1.heap.size v1 X := by rw [hX]; exact (((hb2.setCell hg _).setCell hg _).setCell hg _).setCell hg _
    have hcap : 64 ≤ c ∧ (c : Int) ≤ 9223372036854775807 := by
      rcases ho.2 with ⟨hx, _⟩ | ⟨g, c, cur, hx, _, _, h3, h4, _⟩
      · cases hx
      · injection hx with _ _ hx; subst hx; exact ⟨h3, by unfold maxLen at h4; omega⟩
    have HBX := Lib.hid (HB1.out.trans (hbX.mono HB1.out.size))
    have G1 : Hid (Calls Try.prog 11 #[.slice (some ⟨g, 0, none⟩) 64 c] X fun r w' => r = .returned (.tuple #[.agg #[.int .i64 k, .int .u64 e, .int .u64 s, .int .i64 n], .int .i64 er]) ∧ Below X.heap.size X w') := Lib.hid (hget_f HF.out _ _ 64 c X (Bys.own HLB.out hoX) (Nat.le_refl _) hcap.1 hcap.2)
    have G2 : Hid (∀ W, Below X.heap.size X W → Calls Try.prog 12 #[.slice (some ⟨g, 0, none⟩) 64 c] W fun r w' => r = .returned (.tuple #[.agg #[.int .i64 k, .int .u64 e, .int .u64 s, .int .i64 n], .int .i64 er]) ∧ Below W.heap.size W w') := Lib.hid (fun W hW => rhget_f HF.out X.heap.size _ 64 c W ((Bys.own HLB.out hoX).below hW) hW.size hcap.1 hcap.2)
    have HXE := Lib.hid hX
    clear ho hb2 hoX hbX hcap hX
    go_wp2_with (go_at_call 11; rw [← HXE.out]; refine G1.out.mono ?_)
    rintro r v3 ⟨rfl, hb3⟩
    have hV1 := hb3.alloc hb3.size (.cells #[.int .i64 k, .int .u64 e, .int .u64 s, .int .i64 n] 25)
    have hk1 := Blk.new v3 #[.int .i64 k, .int .u64 e, .int .u64 s, .int .i64 n] 25
    have HV1 := Lib.hid hV1
    have HK1 := Lib.hid hk1
    clear hb3 hV1 hk1 q16 q17 q56 q57 f16 f17 f56 f57
    go_wp2_with (go_at_call 12; refine (G2.out _ HV1.out).mono ?_)
    rintro r v4 ⟨rfl, hb4⟩
    have htw := two_of ((HK1.out.later hb4).alloc (.cells #[.int .i64 k, .int .u64 e, .int .u64 s, .int .i64 n] 31)) (Blk.new v4 #[.int .i64 k, .int .u64 e, .int .u64 s, .int .i64 n] 31)
    obtain ⟨⟨q0, q1, q2, q3, r0, r1, r2, r3⟩, htl⟩ := htw
    have HTL := Lib.hid htl
    have HV2 : Hid (Below w.heap.size w (v4.alloc (.cells #[.int .i64 k, .int .u64 e, .int .u64 s, .int .i64 n] 31))) := Lib.hid (by
      have h1 := HBX.out.trans (HV1.out.mono HBX.out.size)
      have h2 := h1.trans (hb4.mono h1.size)
      exact h2.alloc h2.size _)
    clear hb4 htl
    go_wp2
    go_region_with (go_at_call 10; refine (RM.out _).mono ?_; rintro r w' ⟨rfl, hbm⟩; obtain ⟨z0, z1, z2, z3, y0, y1, y2, y3⟩ := HTL.out _ hbm; have HBM := Lib.hid hbm; clear hbm)
    all_goals
      go_wp2
      go_ret
      exact ⟨ret_bool (by simp), HV2.out.drew.trans (HBM.out.mono HV2.out.size)⟩

set_option maxRecDepth 100000 in
theorem lifted (os : Os) (started : os.Started) (H : Type) (enc : TypeId × Value → H) :
    ReturnsInHanded {} Try.checked os 6 .any (Rows.headBytesSpec.pre6 enc Try.prog Try.f6 Rows.headBytesRow.domain false) (Rows.headBytesSpec.post enc Try.prog Try.f6 false true false false) := by
  refine returnsInHanded_of_change (C := Try.checked) own started (by kernel_rfl) Try.func6
    (ChangeSpec.witness6 (enc := enc) (C := Try.checked) false ⟨#[], #[.int .u16 0, .int .u64 0, .int .u64 0, .int .u16 0, .int .u8 0, .int .u8 0], []⟩ 8 (by kernel_rfl) (by kernel_rfl) (by kernel_rfl) (by kernel_rfl)) ?_
  intro W base args ds gs before hval0 hW hcnd _
  have hval : ∀ (j : Nat) t v, Try.f6.params[j]? = some t → args[j]? = some v → Value.okWide Try.prog W .any base t v := hval0
  have hW' := hW
  obtain ⟨p, q, hA0, hV, rfl, hfz, hnd⟩ := hW
  have hA : DataW.TrodAll enc Try.prog W 0 (fun _ => true) true Try.f6.params.toList args.toList ds p := hA0
  rw [Try.params6] at hA hval
  obtain ⟨v0, vs0, d0, ds0, p0, q0, hargs, rfl, rfl, h0, r0⟩ := trodAll_cons hA
  obtain ⟨v1, vs1, d1, ds1, p1, q1, rfl, rfl, rfl, h1, r1⟩ := trodAll_cons r0
  obtain ⟨v2, vs2, d2, ds2, p2, q2, rfl, rfl, rfl, h2, r2⟩ := trodAll_cons r1
  obtain ⟨v3, vs3, d3, ds3, p3, q3, rfl, rfl, rfl, h3, r3⟩ := trodAll_cons r2
  obtain ⟨v4, vs4, d4, ds4, p4, q4, rfl, rfl, rfl, h4, r4⟩ := trodAll_cons r3
  obtain ⟨v5, vs5, d5, ds5, p5, q5, rfl, rfl, rfl, h5, r5⟩ := trodAll_cons r4
  obtain ⟨rfl, rfl, rfl⟩ := trodAll_nil r5
  obtain rfl : args = #[v0, v1, v2, v3, v4, v5] := by cases args; simp_all
  obtain ⟨rfl, rfl⟩ := trodVars_none hV
  obtain ⟨a0, rfl, rfl, rfl, w0⟩ := open_int Try.underlying41 (hval 0 41 v0 rfl rfl) h0
  obtain ⟨a1, rfl, rfl, rfl, w1⟩ := open_int Try.underlying22 (hval 1 22 v1 rfl rfl) h1
  obtain ⟨a2, rfl, rfl, rfl, w2⟩ := open_int Try.underlying22 (hval 2 22 v2 rfl rfl) h2
  obtain ⟨a3, rfl, rfl, rfl, w3⟩ := open_int Try.underlying41 (hval 3 41 v3 rfl rfl) h3
  obtain ⟨a4, rfl, rfl, rfl, w4⟩ := open_int Try.underlying5 (hval 4 5 v4 rfl rfl) h4
  obtain ⟨a5, rfl, rfl, rfl, w5⟩ := open_int Try.underlying5 (hval 5 5 v5 rfl rfl) h5
  clear hA0 hval0
  refine (walk a0 a1 a2 a3 a4 a5 W w0 w1 w2 w3 w4 w5).mono fun e W' ⟨he, bel⟩ => ?_
  subst he
  exact ⟨_, rfl, _, _, _, [], _, [], hW', trodAll_mk1 (shut_bool Try.underlying4 _), (trodAll_cons_mk (shut_int Try.underlying41 w0) (trodAll_cons_mk (shut_int Try.underlying22 w1) (trodAll_cons_mk (shut_int Try.underlying22 w2) (trodAll_cons_mk (shut_int Try.underlying41 w3) (trodAll_cons_mk (shut_int Try.underlying5 w4) (trodAll_cons_mk (shut_int Try.underlying5 w5) trodAll_mk0)))))), rfl, bel.frame _, fun h => by cases h⟩

theorem over : Rows.headBytesRow.holds Try.pinned (OpenSpec.ofChange Rows.headBytesSpec) :=
  OpenClaim.holds_of_wide 6 Try.f6 rfl rfl rfl rfl rfl rfl rfl ⟨rfl, rfl, rfl, rfl, rfl⟩ rfl rfl rfl rfl rfl (by kernel_rfl) Try.func6 (by kernel_rfl)
    (of_decide_eq_true (by kernel_rfl)) (by unfold Func.isWrapper; first | (rw [if_pos (by decide +kernel)]; kernel_rfl) | (rw [if_neg (by decide +kernel)]; exact ⟨rfl, rfl⟩))
    (fun os started H enc _ => lifted os started H enc)

theorem proved : Rows.HeadBytesSaid := over
#print axioms proved
end Go.Proofs.Ytmhigmfifpbmaaa.headBytes
