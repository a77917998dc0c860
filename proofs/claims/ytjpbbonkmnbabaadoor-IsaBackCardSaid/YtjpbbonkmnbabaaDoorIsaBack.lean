/-
  What is proved here: IsaBack: what is encoded is decoded; what is told as a text is read.
  Conditions: none of our own; the law's row says what its input is.
-/
import Derived.Test.YtjpbbonkmnbabaaDoorRows
import Derived.Test.YtjpbbonkmnbabaaDoorIsaCut
import Derived.Test.YtjpbbonkmnbabaaDoorApp
import Derived.Test.YtjpbbonkmnbabaaDoorMask
import Derived.WalkKit
import Derived.ProofKit
import Derived.OpenShut
import Derived.ShutString
import Derived.ChangeOld
import Derived.Below
import Derived.Test.YtjpbbonkmnbabaaDoorTie
import Derived.Test.YtjpbbonkmnbabaaDoorCards
import Derived.SevenTiedAt
import Derived.Lay
import Derived.LaidMore
import Derived.Stop.Joined
import Derived.Test.YtjpbbonkmnbabaaDoorCard
namespace Go.Proofs.YtjpbbonkmnbabaaDoor.isaBack
open Go.ChangeShapes Go.WideShapes Go.ChangeAt Go.RowKit
open Go.ChangeMaps (open_string shut_string)
set_option linter.unusedVariables false

theorem own : ownKnob Tryd.prog.godebug = none := by kernel_rfl
theorem laidOut : laidOutB Tryd.prog = true := by kernel_rfl

theorem bd12_i64 {n : Int} (h : (Lit.int .i64 n).wf = true) : -9223372036854775808 ≤ n ∧ n ≤ 9223372036854775807 := by
  simpa [Lit.wf, IntKind.min, IntKind.max, IntKind.signed, IntKind.bits] using h
theorem bd12_i32 {n : Int} (h : (Lit.int .i32 n).wf = true) : -2147483648 ≤ n ∧ n ≤ 2147483647 := by
  simpa [Lit.wf, IntKind.min, IntKind.max, IntKind.signed, IntKind.bits] using h
set_option maxRecDepth 100000 in
set_option maxHeartbeats 1600000 in
theorem walk (a0 : Int) (a1 : Int) (a2 : Int) (a3 : Int) (a4 : Int) (a5 : Int) (w : World) (hTB : Tb w) (w0 : (Lit.int .i64 a0).wf = true) (w1 : (Lit.int .i64 a1).wf = true) (w2 : (Lit.int .i64 a2).wf = true) (w3 : (Lit.int .i64 a3).wf = true) (w4 : (Lit.int .i32 a4).wf = true) (w5 : (Lit.int .u64 a5).wf = true) :
    Calls Tryd.prog 8 #[.int .i64 a0, .int .i64 a1, .int .i64 a2, .int .i64 a3, .int .i32 a4, .int .u64 a5] w fun e w' => e = .returned (.bool true) ∧ Below w.heap.size w w' := by
  have HTB := Lib.hid hTB
  clear hTB
  obtain ⟨x0, x1⟩ := bd_u64 w5
  have hok : In.Ok32 ⟨a0, a1, a2, a3, a4⟩ := ⟨bd12_i64 w0, bd12_i64 w1, bd12_i64 w2, bd12_i64 w3, bd12_i32 w4⟩
  have h1 := fun v (hb : Below w.heap.size w v) => ienc_any _ v hok (HTB.out.later hb)
  have h2 := fun v (hb : Below w.heap.size w v) => itext_any _ v hok (HTB.out.later hb)
  have h3 := fun v (hb : Below w.heap.size w v) => idec_any a5 v x0 x1 (HTB.out.later hb)
  have hes := err_same ⟨a0, a1, a2, a3, a4⟩
  have hde := @dec_enc ⟨a0, a1, a2, a3, a4⟩
  have hpt := @parse_text ⟨a0, a1, a2, a3, a4⟩
  have hts := @textI_size ⟨a0, a1, a2, a3, a4⟩
  have heb := @encI_bd ⟨a0, a1, a2, a3, a4⟩
  obtain ⟨⟨x, e⟩, hE⟩ : ∃ E, encI ⟨a0, a1, a2, a3, a4⟩ = E := ⟨_, rfl⟩
  obtain ⟨⟨s, f⟩, hT⟩ : ∃ T, textI ⟨a0, a1, a2, a3, a4⟩ = T := ⟨_, rfl⟩
  rw [hE] at h1 hes hde heb
  rw [hT] at h2 hes hpt hts
  simp only at hes hde hpt hts heb
  obtain ⟨rfl, hes2, hmay⟩ := hes
  simp only [In.ival] at h1 h2
  have hdz := @dec_zero a5
  have hed := @enc_dec a5
  have hdo := dec_ok32 a5
  obtain ⟨⟨⟨op, fa, fb, fc, fm⟩, k⟩, hD⟩ : ∃ D, decI a5 = D := ⟨_, rfl⟩
  rw [hD] at h3 hdz hed hdo
  simp only [In.ival] at h3
  simp only at hdz hed hdo
  have H1 := Lib.hid h1
  have H2 := Lib.hid h2
  have H3 := Lib.hid h3
  have H4 : Hid (e = 0 → ∀ v, Below w.heap.size w v → Calls Tryd.prog 16 #[.int .u64 x] v fun r w' => r = .returned (.tuple #[.agg #[.int .i64 a0, .int .i64 a1, .int .i64 a2, .int .i64 a3, .int .i32 a4], .int .i64 0]) ∧ Below v.heap.size v w') := Lib.hid (fun he v hb => by
    have h := idec_any x v (heb (hmay he)).1 (heb (hmay he)).2 (HTB.out.later hb)
    rw [hde (hmay he)] at h
    exact h)
  have H5 : Hid (e = 0 → ∀ v, Below w.heap.size w v → Calls Tryd.prog 18 #[.string s] v fun r w' => r = .returned (.tuple #[.agg #[.int .i64 a0, .int .i64 a1, .int .i64 a2, .int .i64 a3, .int .i32 a4], .int .i64 0]) ∧ Below v.heap.size v w') := Lib.hid (fun he v hb => by
    have h := iparse_any s v (hts (hmay he)) (HTB.out.later hb)
    rw [hpt (hmay he)] at h
    exact h)
  have HES := Lib.hid hes2
  have HDZ := Lib.hid hdz
  have HED : Hid (k = 0 → ∀ v, Below w.heap.size w v → Calls Tryd.prog 11 #[.agg #[.int .i64 op, .int .i64 fa, .int .i64 fb, .int .i64 fc, .int .i32 fm]] v fun r w' => r = .returned (.tuple #[.int .u64 a5, .int .i64 0]) ∧ Below v.heap.size v w') := Lib.hid (fun hk v hb => by
    have h := ienc_any _ v hdo (HTB.out.later hb)
    rw [hed hk] at h
    exact h)
  clear h1 h2 h3 hes2 hde hpt hts heb hdz hed hdo hok hE hT hD hmay w0 w1 w2 w3 w4 w5
  go_enter Tryd.func8, Tryd.ntmps8
  go_wp2_with fail
  refine (awake12_any _ HTB.out).mono ?_
  rintro r v1 ⟨rfl, hb1⟩
  have HB1 := Lib.hid hb1
  clear hb1
  obtain ⟨X, hX⟩ : ∃ X, X = v1.alloc (.cells #[.int .i64 a0, .int .i64 a1, .int .i64 a2, .int .i64 a3, .int .i32 a4] 24) := ⟨_, rfl⟩
  have HXE := Lib.hid hX
  have HXK : Hid (Blk X v1.heap.size #[.int .i64 a0, .int .i64 a1, .int .i64 a2, .int .i64 a3, .int .i32 a4] 24) := Lib.hid (hX ▸ Blk.new v1 _ _)
  have HB9 : Hid (Below w.heap.size w X) := Lib.hid (hX ▸ HB1.out.alloc HB1.out.size _)
  clear hX
  go_wp2_with fail
  rw [← HXE.out]
  refine (H1.out X HB9.out).mono ?_
  rintro r v2 ⟨rfl, hb2⟩
  have HB2 := Lib.hid (HB9.out.trans (hb2.mono HB9.out.size))
  have HK2 := Lib.hid (HXK.out.later hb2)
  obtain ⟨q0, q1, q2, q3, q4⟩ := cells5 HK2.out
  clear hb2
  go_wp2_with fail
  refine (H2.out _ HB2.out).mono ?_
  rintro r v3 ⟨rfl, hb3⟩
  have HB3 := Lib.hid (HB2.out.trans (hb3.mono HB2.out.size))
  have HK3 := Lib.hid (HK2.out.later hb3)
  clear hb3 q0 q1 q2 q3 q4
  have hee : (e != e) = false := by simp
  go_upto_if 50 with fail
  go_cut [] (fun wx => Below w.heap.size w wx)
  · rcases HES.out with he | he
    · have G4 := Lib.hid (H4.out he)
      have G5 := Lib.hid (H5.out he)
      subst he
      go_wp2_with fail
      refine (G4.out _ HB3.out).mono ?_
      rintro r v4 ⟨rfl, hb4⟩
      have HB4 := Lib.hid (HB3.out.trans (hb4.mono HB3.out.size))
      obtain ⟨Y, hY⟩ : ∃ Y, Y = v4.alloc (.cells #[.int .i64 a0, .int .i64 a1, .int .i64 a2, .int .i64 a3, .int .i32 a4] 24) := ⟨_, rfl⟩
      have HYE := Lib.hid hY
      have HYK : Hid (Blk Y v4.heap.size #[.int .i64 a0, .int .i64 a1, .int .i64 a2, .int .i64 a3, .int .i32 a4] 24) := Lib.hid (hY ▸ Blk.new v4 _ _)
      have HKY : Hid (Blk Y v1.heap.size #[.int .i64 a0, .int .i64 a1, .int .i64 a2, .int .i64 a3, .int .i32 a4] 24) := Lib.hid (hY ▸ (HK3.out.later hb4).alloc _)
      have HBY : Hid (Below w.heap.size w Y) := Lib.hid (hY ▸ HB4.out.alloc HB4.out.size _)
      clear hb4 hY
      go_wp2_with fail
      rw [← HYE.out]
      refine (G5.out _ HBY.out).mono ?_
      rintro r v5 ⟨rfl, hb5⟩
      have HB5 := Lib.hid (HBY.out.trans (hb5.mono HBY.out.size))
      obtain ⟨U, hU⟩ : ∃ U, U = v5.alloc (.cells #[.int .i64 a0, .int .i64 a1, .int .i64 a2, .int .i64 a3, .int .i32 a4] 24) := ⟨_, rfl⟩
      have HUE := Lib.hid hU
      obtain ⟨u0, u1, u2, u3, u4⟩ := cells5 (show Blk (v5.alloc (.cells #[.int .i64 a0, .int .i64 a1, .int .i64 a2, .int .i64 a3, .int .i32 a4] 24)) v1.heap.size #[.int .i64 a0, .int .i64 a1, .int .i64 a2, .int .i64 a3, .int .i32 a4] 24 from (HKY.out.later hb5).alloc _)
      obtain ⟨y0, y1, y2, y3, y4⟩ := cells5 (show Blk (v5.alloc (.cells #[.int .i64 a0, .int .i64 a1, .int .i64 a2, .int .i64 a3, .int .i32 a4] 24)) v4.heap.size #[.int .i64 a0, .int .i64 a1, .int .i64 a2, .int .i64 a3, .int .i32 a4] 24 from (HYK.out.later hb5).alloc _)
      have hl1 := (HKY.out.later hb5).lt
      have hl4 := (HYK.out.later hb5).lt
      obtain ⟨p0, p1, p2, p3, p4⟩ := cells5 (HKY.out.later hb5)
      obtain ⟨z0, z1, z2, z3, z4⟩ := cells5 (HYK.out.later hb5)
      have HBU := Lib.hid (fun o => HB5.out.alloc HB5.out.size o)
      clear hb5 hU
      go_wp2
      go_meet
      exact HBU.out _
    · have heb2 : (e == 0) = false := by rw [he]; rfl
      subst he
      go_wp2
      go_meet
      exact HB3.out
  have HBC := Lib.hid hcut
  clear hcut
  go_wp2_with fail
  refine (H3.out _ HBC.out).mono ?_
  rintro r v7 ⟨rfl, hb7⟩
  have HB7 := Lib.hid (HBC.out.trans (hb7.mono HBC.out.size))
  have HB8 := Lib.hid (fun o => HB7.out.alloc HB7.out.size o)
  clear hb7
  by_cases hk : k = 0
  · have GED := Lib.hid (HED.out hk)
    subst hk
    go_wp2_with fail
    refine (GED.out _ (HB8.out _)).mono ?_
    rintro r v9 ⟨rfl, hb9⟩
    have HBF := Lib.hid ((HB8.out _).trans (hb9.mono (HB8.out _).size))
    clear hb9
    go_wp2
    go_ret
    exact ⟨by simp, HBF.out⟩
  · have hz := HDZ.out hk
    injection hz with z0 z1 z2 z3 z4
    subst z0 z1 z2 z3 z4
    have hkb : (k != 0) = true := by simpa using hk
    go_wp2
    go_ret
    exact ⟨by simp, HB8.out _⟩

set_option maxRecDepth 100000 in
theorem lifted (os : Os) (started : os.Started) (H : Type) (enc : TypeId × Value → H) :
    ReturnsInHanded {} Tryd.checked os 8 .any (fun w args => (Rows.isaBackSpec.pre enc Tryd.prog Tryd.f8 [] false w args ∧ laidMetH Tryd.prog laid12 w) ∧ sizedMet enc Tryd.prog Tryd.f8 (OpenSpec.ofChange Rows.isaBackSpec) false w args) (Rows.isaBackSpec.post enc Tryd.prog Tryd.f8 false true false false) := by
  refine wrapLaid (C := Tryd.checked) (laid := laid12) own started (by kernel_rfl) Tryd.func8
    (ChangeSpec.witness_shaped (enc := enc) (C := Tryd.checked) (os := os) (X := fun w _ => laidMetH Tryd.prog laid12 w) false (World.laidAll Tryd.prog os laid12) #[.int .i64 0, .int .i64 0, .int .i64 0, .int .i64 0, .int .i32 0, .int .u64 0] 8 (World.laidAll_os _ _ _) (World.shaped_of_ZipB (by kernel_rfl) (by kernel_rfl)) (by kernel_rfl) (by kernel_rfl) (by kernel_rfl)
      (by rw [MakeChecks.laidMetH_plain _ _ _ (by kernel_rfl)]; exact laidMet_laidAll _ (by kernel_rfl) (by kernel_rfl))) ?_
  intro W base args ds gs before hval0 hW hL hsh
  have hval : ∀ (j : Nat) t v, Tryd.f8.params[j]? = some t → args[j]? = some v → Value.okWide Tryd.prog W .any base t v := hval0
  have hW' := hW
  obtain ⟨p, q, hA0, hV, rfl, hfz, hnd⟩ := hW
  have hA : DataW.TrodAll enc Tryd.prog W 0 (fun _ => true) true Tryd.f8.params.toList args.toList ds p := hA0
  rw [Tryd.params8] at hA hval
  obtain ⟨v0, vs0, d0, ds0, p0, q0, hargs, rfl, rfl, h0, r0⟩ := trodAll_cons hA
  obtain ⟨v1, vs1, d1, ds1, p1, q1, rfl, rfl, rfl, h1, r1⟩ := trodAll_cons r0
  obtain ⟨v2, vs2, d2, ds2, p2, q2, rfl, rfl, rfl, h2, r2⟩ := trodAll_cons r1
  obtain ⟨v3, vs3, d3, ds3, p3, q3, rfl, rfl, rfl, h3, r3⟩ := trodAll_cons r2
  obtain ⟨v4, vs4, d4, ds4, p4, q4, rfl, rfl, rfl, h4, r4⟩ := trodAll_cons r3
  obtain ⟨v5, vs5, d5, ds5, p5, q5, rfl, rfl, rfl, h5, r5⟩ := trodAll_cons r4
  obtain ⟨rfl, rfl, rfl⟩ := trodAll_nil r5
  obtain rfl : args = #[v0, v1, v2, v3, v4, v5] := by cases args; simp_all
  obtain ⟨rfl, rfl⟩ := trodVars_none hV
  obtain ⟨a0, rfl, rfl, rfl, w0⟩ := open_int Tryd.underlying3 (hval 0 3 v0 rfl rfl) h0
  obtain ⟨a1, rfl, rfl, rfl, w1⟩ := open_int Tryd.underlying3 (hval 1 3 v1 rfl rfl) h1
  obtain ⟨a2, rfl, rfl, rfl, w2⟩ := open_int Tryd.underlying3 (hval 2 3 v2 rfl rfl) h2
  obtain ⟨a3, rfl, rfl, rfl, w3⟩ := open_int Tryd.underlying3 (hval 3 3 v3 rfl rfl) h3
  obtain ⟨a4, rfl, rfl, rfl, w4⟩ := open_int Tryd.underlying21 (hval 4 21 v4 rfl rfl) h4
  obtain ⟨a5, rfl, rfl, rfl, w5⟩ := open_int Tryd.underlying25 (hval 5 25 v5 rfl rfl) h5
  clear hA0 hval0
  refine (walk a0 a1 a2 a3 a4 a5 W (tb_of_laid hL hsh) w0 w1 w2 w3 w4 w5).mono fun e W' ⟨he, bel⟩ => ?_
  subst he
  exact ⟨_, rfl, _, _, _, [], _, [], hW', trodAll_mk1 (shut_bool Tryd.underlying4 _), (trodAll_cons_mk (shut_int Tryd.underlying3 w0) (trodAll_cons_mk (shut_int Tryd.underlying3 w1) (trodAll_cons_mk (shut_int Tryd.underlying3 w2) (trodAll_cons_mk (shut_int Tryd.underlying3 w3) (trodAll_cons_mk (shut_int Tryd.underlying21 w4) (trodAll_cons_mk (shut_int Tryd.underlying25 w5) trodAll_mk0)))))), rfl, bel.frame _, fun h => by cases h⟩

theorem over : Rows.isaBackRow.holds Tryd.pinned (OpenSpec.ofChange Rows.isaBackSpec) :=
  OpenClaim.holds_of_wide 8 Tryd.f8 rfl rfl rfl rfl rfl rfl rfl ⟨rfl, rfl, rfl, rfl, rfl⟩ rfl rfl rfl rfl rfl (by kernel_rfl) Tryd.func8 (by kernel_rfl)
    (of_decide_eq_true (by kernel_rfl)) (by unfold Func.isWrapper; first | (rw [if_pos (by decide +kernel)]; kernel_rfl) | (rw [if_neg (by decide +kernel)]; exact ⟨rfl, rfl⟩))
    (fun os started H enc _ => lifted os started H enc)

theorem proved : Rows.IsaBackCardSaid :=
  Claim7.holds_tied_plain_at .later [] [.data, .data, .data, .data, .sentinel, .sentinel, .data, .data, .pinned] true (true, "d89ea6c87e700680fd9f7b0e2cadb954407153fce9f48a275aa9c1ac018cb73b") true over (fun _ h => by cases h) (by kernel_rfl) (fun _ h => by cases h) isaBack_row_tie rfl ⟨rfl, rfl⟩ (by kernel_rfl) rfl
    (fun f fn hf hfn => by
      obtain rfl : f = 8 := (Option.some.inj ((show Tryd.prog.funcNamed "dormouse/dormouselaw12.IsaBack" = some 8 by kernel_rfl).symm.trans hf)).symm
      obtain rfl : fn = Tryd.f8 := (Option.some.inj (Tryd.func8.symm.trans hfn)).symm
      exact ⟨by kernel_rfl, fun j t ht => by
        rw [Tryd.params8] at ht
        have hm : t ∈ [3, 3, 3, 3, 21, 25] := by simpa using Array.mem_of_getElem? ht
        have hall : ([3, 3, 3, 3, 21, 25].all fun u => !Tryd.prog.wantsStandIn u) = true := by kernel_rfl
        exact (show Tryd.prog.wantsStandIn t = false by simpa using List.all_eq_true.1 hall t hm)⟩)
    (by kernel_rfl)
#print axioms proved
end Go.Proofs.YtjpbbonkmnbabaaDoor.isaBack
