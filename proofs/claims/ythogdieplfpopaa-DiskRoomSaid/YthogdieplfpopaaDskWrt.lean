/-
  What is proved here: a write done to a state: its region.
  Conditions: none.
-/
import Derived.Test.YthogdieplfpopaaDskRen
import Derived.Test.YthogdieplfpopaaDskOver
import Derived.Test.YthogdieplfpopaaFWords
namespace Go.Proofs.Ythogdieplfpopaa
open Go.RowKit Go.WideMaps Go.Maps
set_option linter.unusedVariables false
set_option linter.unusedSimpArgs false

structure WKeep (w : World) (F bf ba bb sI : Nat) (p : Int) (v bv : Value) : Prop where
  c1 : w.cell? ⟨bf, 0, none⟩ = some (.pointer (some ⟨F, 0, none⟩))
  c2 : w.cell? ⟨ba, 0, none⟩ = some (.int .i64 p)
  c3 : w.cell? ⟨bb, 0, none⟩ = some bv
  c4 : w.cell? ⟨F, sI, none⟩ = some v
  fz : w.frozen? ⟨F, sI, none⟩ = false
structure PWr (w0 : World) (F bf ba bb sI : Nat) (p : Int) (v bv : Value) (Post : World → Prop) (L : Nat → Bool) (y : Nat → Value) (w : World) : Prop where
  k : L 14 = false → WKeep w F bf ba bb sI p v bv
  a : L 10 = false → w = w0
  b : L 10 = true → L 14 = false → ∃ a n c, y 15 = .slice a n c ∧ Hid (Post (w.setCell ⟨F, sI, none⟩ (.slice a n c)))
  c : L 14 = true → Post w
set_option maxHeartbeats 3200000 in
set_option maxRecDepth 100000 in
theorem wrt_0 {w : World} {F bf ba bb : Nat} {v bv : Value} (p : Int) (Post : World → Prop) (HK0 : Hid (WKeep w.drew F bf ba bb 0 p v bv))
    (HC : Hid (Calls Try.prog 82 #[v, .int .i64 p, bv] w.drew fun r w1 => ∃ a n c, r = .returned (.slice a n c) ∧ WKeep w1 F bf ba bb 0 p v bv ∧ Hid (Post (w1.setCell ⟨F, 0, none⟩ (.slice a n c))))) :
    Calls Try.prog 81 #[.int .i64 0, .pointer (some ⟨bf, 0, none⟩), .pointer (some ⟨ba, 0, none⟩), .pointer (some ⟨bb, 0, none⟩)] w fun r w' => r = .returned (.tuple #[]) ∧ Post w' := by
  go_enter Try.func81, Try.ntmps81
  refine wp_region_a (by kernel_rfl) 19 rfl [5, 6, 7, 8, 9, 10, 11, 12, 13, 14, 15, 16, 17, 18, 19] (fun _ _ => True) (factsOf [Is (.pointer (some ⟨F, 0, none⟩)), Is (.int .i64 0), Is (.pointer (some ⟨F, 0, none⟩)), Is (.int .i64 0), Is (.pointer (some ⟨F, 0, none⟩)), Is (.pointer (some ⟨F, 0, none⟩)), Is (.pointer (some ⟨F, 0, none⟩)), Is (v), Is (.int .i64 p), Is (bv), AnyB, Is (.pointer (some ⟨F, 0, none⟩)), Is (.pointer (some ⟨F, 0, none⟩)), Is (.pointer (some ⟨F, 0, none⟩)), AnyB]) (JA [10, 14] [15] (PWr w.drew F bf ba bb 0 p v bv Post)) ?mono0 ?hj0 (by kernel_rfl) ?start0 ?steps0 ?fin0
  case mono0 => exact factsOf_monoR (monoR_cons (Is.monoR _ _) (monoR_cons (Is.monoR _ _) (monoR_cons (Is.monoR _ _) (monoR_cons (Is.monoR _ _) (monoR_cons (Is.monoR _ _) (monoR_cons (Is.monoR _ _) (monoR_cons (Is.monoR _ _) (monoR_cons (Is.monoR _ _) (monoR_cons (Is.monoR _ _) (monoR_cons (Is.monoR _ _) (monoR_cons (AnyB.monoR _) (monoR_cons (Is.monoR _ _) (monoR_cons (Is.monoR _ _) (monoR_cons (Is.monoR _ _) (monoR_cons (AnyB.monoR _) (monoR_nil _))))))))))))))))
  case hj0 => exact JA.congr (by decide)
  case start0 =>
    refine JA.of fun L' y' h1 h2 => ?_
    exact ⟨fun _ => HK0.out, fun _ => rfl, (fun h => by rw [h1 10 (by decide)] at h; cases h), (fun h => by rw [h1 14 (by decide)] at h; cases h)⟩
  case fin0 =>
    intro y L w9 hJ hall hF hT
    have hP := hJ.out
    clear hJ hF
    have hpo := hP.c (hall 14 (by decide))
    clear hP hall hT
    go_end0
    exact ⟨rfl, hpo⟩
  case steps0 =>
    refine ⟨?_, ?_, ?_, ?_, ?_, ?_, ?_, ?_, ?_, ?_, ?_, ?_, ?_, ?_, ?_, trivial⟩
    all_goals intro L y w9 hJ hL hy0 hp0 hcl hun
    all_goals have hy := Lib.hid hy0
    all_goals have hp := Lib.hid hp0
    all_goals have HJ := Lib.hid hJ
    all_goals have HP := Lib.hid hJ.out
    all_goals have hU := Lib.hid hun
    all_goals clear hy0 hp0 hun hJ
    · have e1 : y 1 = .pointer (some ⟨bf, 0, none⟩) := hy.out 1 (by decide)
      have hN14 : L 14 = false := by
        cases h : L 14 with
        | false => rfl
        | true => have := (hcl 11 _ rfl (hcl 12 _ rfl (hcl 13 _ rfl (hcl 14 _ rfl h 13 (by decide)) 12 (by decide)) 11 (by decide)) 0 (by decide)); rw [hL] at this; cases this
      have q0 : w9.cell? ⟨bf, 0, none⟩ = some (.pointer (some ⟨F, 0, none⟩)) := (fun (_ : Nat) => (HP.out.k hN14).c1) 0
      intro K Q hK
      clear hcl hL
      have v1 := (eval_frame 19 y [] (t := 1) (by decide)).trans e1
      obtain ⟨A, hA⟩ : ∃ A, (⟨frameOf 19 y, []⟩ : Act) = A := ⟨_, rfl⟩
      rw [hA] at v1 hK ⊢
      clear hA hy hp
      simp only [Act.eval] at v1
      go_simp
      exact hK _ _ ⟨trivial, fun _ => rfl, HJ.out.pure (by decide) (by decide)⟩
    · have e1 : y 0 = .int .i64 0 := hy.out 0 (by decide)
      intro K Q hK
      clear hcl hL
      have v1 := (eval_frame 19 y [] (t := 0) (by decide)).trans e1
      obtain ⟨A, hA⟩ : ∃ A, (⟨frameOf 19 y, []⟩ : Act) = A := ⟨_, rfl⟩
      rw [hA] at v1 hK ⊢
      clear hA hy hp
      simp only [Act.eval] at v1
      go_simp
      exact hK _ _ ⟨trivial, fun _ => rfl, HJ.out.pure (by decide) (by decide)⟩
    · have e1 : y 1 = .pointer (some ⟨bf, 0, none⟩) := hy.out 1 (by decide)
      have hN14 : L 14 = false := by
        cases h : L 14 with
        | false => rfl
        | true => have := (hcl 4 _ rfl (hcl 5 _ rfl (hcl 6 _ rfl (hcl 7 _ rfl (hcl 10 _ rfl (hcl 14 _ rfl h 10 (by decide)) 7 (by decide)) 6 (by decide)) 5 (by decide)) 4 (by decide)) 2 (by decide)); rw [hL] at this; cases this
      have q0 : w9.cell? ⟨bf, 0, none⟩ = some (.pointer (some ⟨F, 0, none⟩)) := (fun (_ : Nat) => (HP.out.k hN14).c1) 0
      intro K Q hK
      clear hcl hL
      have v1 := (eval_frame 19 y [] (t := 1) (by decide)).trans e1
      obtain ⟨A, hA⟩ : ∃ A, (⟨frameOf 19 y, []⟩ : Act) = A := ⟨_, rfl⟩
      rw [hA] at v1 hK ⊢
      clear hA hy hp
      simp only [Act.eval] at v1
      go_simp
      exact hK _ _ ⟨trivial, fun _ => rfl, HJ.out.pure (by decide) (by decide)⟩
    · have e1 : y 0 = .int .i64 0 := hy.out 0 (by decide)
      intro K Q hK
      clear hcl hL
      have v1 := (eval_frame 19 y [] (t := 0) (by decide)).trans e1
      obtain ⟨A, hA⟩ : ∃ A, (⟨frameOf 19 y, []⟩ : Act) = A := ⟨_, rfl⟩
      rw [hA] at v1 hK ⊢
      clear hA hy hp
      simp only [Act.eval] at v1
      go_simp
      exact hK _ _ ⟨trivial, fun _ => rfl, HJ.out.pure (by decide) (by decide)⟩
    · have e1 : y 7 = .pointer (some ⟨F, 0, none⟩) := (hp.out 2 (by decide)).2 (by decide)
      intro K Q hK
      clear hcl hL
      have v1 := (eval_frame 19 y [] (t := 7) (by decide)).trans e1
      obtain ⟨A, hA⟩ : ∃ A, (⟨frameOf 19 y, []⟩ : Act) = A := ⟨_, rfl⟩
      rw [hA] at v1 hK ⊢
      clear hA hy hp
      simp only [Act.eval] at v1
      go_simp
      exact hK _ _ ⟨trivial, fun _ => rfl, HJ.out.pure (by decide) (by decide)⟩
    · have e1 : y 9 = .pointer (some ⟨F, 0, none⟩) := (hp.out 4 (by decide)).2 (by decide)
      intro K Q hK
      clear hcl hL
      have v1 := (eval_frame 19 y [] (t := 9) (by decide)).trans e1
      obtain ⟨A, hA⟩ : ∃ A, (⟨frameOf 19 y, []⟩ : Act) = A := ⟨_, rfl⟩
      rw [hA] at v1 hK ⊢
      clear hA hy hp
      simp only [Act.eval] at v1
      go_simp
      exact hK _ _ ⟨trivial, fun _ => rfl, HJ.out.pure (by decide) (by decide)⟩
    · have e1 : y 10 = .pointer (some ⟨F, 0, none⟩) := (hp.out 5 (by decide)).2 (by decide)
      have e2 : y 8 = .int .i64 0 := (hp.out 3 (by decide)).2 (by decide)
      intro K Q hK
      clear hcl hL
      have v1 := (eval_frame 19 y [] (t := 10) (by decide)).trans e1
      have v2 := (eval_frame 19 y [] (t := 8) (by decide)).trans e2
      obtain ⟨A, hA⟩ : ∃ A, (⟨frameOf 19 y, []⟩ : Act) = A := ⟨_, rfl⟩
      rw [hA] at v1 v2 hK ⊢
      clear hA hy hp
      simp only [Act.eval] at v1 v2
      go_simp
      exact hK _ _ ⟨trivial, fun _ => rfl, HJ.out.pure (by decide) (by decide)⟩
    · have e1 : y 11 = .pointer (some ⟨F, 0, none⟩) := (hp.out 6 (by decide)).2 (by decide)
      have hN14 : L 14 = false := by
        cases h : L 14 with
        | false => rfl
        | true => have := (hcl 10 _ rfl (hcl 14 _ rfl h 10 (by decide)) 7 (by decide)); rw [hL] at this; cases this
      have q0 : w9.cell? ⟨F, 0, none⟩ = some (v) := (fun (_ : Nat) => (HP.out.k hN14).c4) 0
      intro K Q hK
      clear hcl hL
      have v1 := (eval_frame 19 y [] (t := 11) (by decide)).trans e1
      obtain ⟨A, hA⟩ : ∃ A, (⟨frameOf 19 y, []⟩ : Act) = A := ⟨_, rfl⟩
      rw [hA] at v1 hK ⊢
      clear hA hy hp
      simp only [Act.eval] at v1
      go_simp
      exact hK _ _ ⟨trivial, fun _ => rfl, HJ.out.pure (by decide) (by decide)⟩
    · have e1 : y 2 = .pointer (some ⟨ba, 0, none⟩) := hy.out 2 (by decide)
      have hN14 : L 14 = false := by
        cases h : L 14 with
        | false => rfl
        | true => have := (hcl 10 _ rfl (hcl 14 _ rfl h 10 (by decide)) 8 (by decide)); rw [hL] at this; cases this
      have q0 : w9.cell? ⟨ba, 0, none⟩ = some (.int .i64 p) := (fun (_ : Nat) => (HP.out.k hN14).c2) 0
      intro K Q hK
      clear hcl hL
      have v1 := (eval_frame 19 y [] (t := 2) (by decide)).trans e1
      obtain ⟨A, hA⟩ : ∃ A, (⟨frameOf 19 y, []⟩ : Act) = A := ⟨_, rfl⟩
      rw [hA] at v1 hK ⊢
      clear hA hy hp
      simp only [Act.eval] at v1
      go_simp
      exact hK _ _ ⟨trivial, fun _ => rfl, HJ.out.pure (by decide) (by decide)⟩
    · have e1 : y 3 = .pointer (some ⟨bb, 0, none⟩) := hy.out 3 (by decide)
      have hN14 : L 14 = false := by
        cases h : L 14 with
        | false => rfl
        | true => have := (hcl 10 _ rfl (hcl 14 _ rfl h 10 (by decide)) 9 (by decide)); rw [hL] at this; cases this
      have q0 : w9.cell? ⟨bb, 0, none⟩ = some (bv) := (fun (_ : Nat) => (HP.out.k hN14).c3) 0
      intro K Q hK
      clear hcl hL
      have v1 := (eval_frame 19 y [] (t := 3) (by decide)).trans e1
      obtain ⟨A, hA⟩ : ∃ A, (⟨frameOf 19 y, []⟩ : Act) = A := ⟨_, rfl⟩
      rw [hA] at v1 hK ⊢
      clear hA hy hp
      simp only [Act.eval] at v1
      go_simp
      exact hK _ _ ⟨trivial, fun _ => rfl, HJ.out.pure (by decide) (by decide)⟩
    · have e1 : y 12 = v := (hp.out 7 (by decide)).2 (by decide)
      have e2 : y 13 = .int .i64 p := (hp.out 8 (by decide)).2 (by decide)
      have e3 : y 14 = bv := (hp.out 9 (by decide)).2 (by decide)
      have hN10 : L 10 = false := hL
      have hN14 : L 14 = false := by
        cases h : L 14 with
        | false => rfl
        | true => have := (hcl 14 _ rfl h 10 (by decide)); rw [hL] at this; cases this
      obtain rfl := HP.out.a hN10
      intro K Q hK
      clear hcl hL
      have v1 := (eval_frame 19 y [] (t := 12) (by decide)).trans e1
      have v2 := (eval_frame 19 y [] (t := 13) (by decide)).trans e2
      have v3 := (eval_frame 19 y [] (t := 14) (by decide)).trans e3
      obtain ⟨A, hA⟩ : ∃ A, (⟨frameOf 19 y, []⟩ : Act) = A := ⟨_, rfl⟩
      rw [hA] at v1 v2 v3 hK ⊢
      clear hA hy hp
      simp only [Act.eval] at v1 v2 v3
      go_simp
      refine HC.out.mono ?_
      rintro r w1 ⟨a, n, c', rfl, k1, k4⟩
      exact hK _ _ ⟨trivial, fun _ => trivial, JA.step fun L' y' h1 h2 h3 h4 => ⟨fun _ => k1, (fun h => by rw [h2 (by decide)] at h; cases h), fun _ _ => ⟨a, n, c', h4 (by decide), k4⟩, (fun h => by rw [h1 14 (by decide) (by decide), hN14] at h; cases h)⟩⟩
    · have e1 : y 5 = .pointer (some ⟨F, 0, none⟩) := (hp.out 0 (by decide)).2 (by decide)
      intro K Q hK
      clear hcl hL
      have v1 := (eval_frame 19 y [] (t := 5) (by decide)).trans e1
      obtain ⟨A, hA⟩ : ∃ A, (⟨frameOf 19 y, []⟩ : Act) = A := ⟨_, rfl⟩
      rw [hA] at v1 hK ⊢
      clear hA hy hp
      simp only [Act.eval] at v1
      go_simp
      exact hK _ _ ⟨trivial, fun _ => rfl, HJ.out.pure (by decide) (by decide)⟩
    · have e1 : y 16 = .pointer (some ⟨F, 0, none⟩) := (hp.out 11 (by decide)).2 (by decide)
      intro K Q hK
      clear hcl hL
      have v1 := (eval_frame 19 y [] (t := 16) (by decide)).trans e1
      obtain ⟨A, hA⟩ : ∃ A, (⟨frameOf 19 y, []⟩ : Act) = A := ⟨_, rfl⟩
      rw [hA] at v1 hK ⊢
      clear hA hy hp
      simp only [Act.eval] at v1
      go_simp
      exact hK _ _ ⟨trivial, fun _ => rfl, HJ.out.pure (by decide) (by decide)⟩
    · have e1 : y 17 = .pointer (some ⟨F, 0, none⟩) := (hp.out 12 (by decide)).2 (by decide)
      have e2 : y 6 = .int .i64 0 := (hp.out 1 (by decide)).2 (by decide)
      intro K Q hK
      clear hcl hL
      have v1 := (eval_frame 19 y [] (t := 17) (by decide)).trans e1
      have v2 := (eval_frame 19 y [] (t := 6) (by decide)).trans e2
      obtain ⟨A, hA⟩ : ∃ A, (⟨frameOf 19 y, []⟩ : Act) = A := ⟨_, rfl⟩
      rw [hA] at v1 v2 hK ⊢
      clear hA hy hp
      simp only [Act.eval] at v1 v2
      go_simp
      exact hK _ _ ⟨trivial, fun _ => rfl, HJ.out.pure (by decide) (by decide)⟩
    · have e1 : y 18 = .pointer (some ⟨F, 0, none⟩) := (hp.out 13 (by decide)).2 (by decide)
      have hL10 : L 10 = true := (hp.out 10 (by decide)).1
      obtain ⟨a', n', c', e2, hpost⟩ := HP.out.b hL10 hL
      have hN14 : L 14 = false := hL
      have fz := (HP.out.k hL).fz
      have q0 := (HP.out.k hL).c4
      intro K Q hK
      clear hcl hL
      have v1 := (eval_frame 19 y [] (t := 18) (by decide)).trans e1
      have v2 := (eval_frame 19 y [] (t := 15) (by decide)).trans e2
      obtain ⟨A, hA⟩ : ∃ A, (⟨frameOf 19 y, []⟩ : Act) = A := ⟨_, rfl⟩
      rw [hA] at v1 v2 hK ⊢
      clear hA hy hp
      simp only [Act.eval] at v1 v2
      go_simp
      exact hK undef _ ⟨trivial, fun h => absurd h (by decide), JA.step fun L' y' h1 h2 h3 h4 => ⟨(fun h => by rw [h2 (by decide)] at h; cases h), (fun h => by rw [h1 10 (by decide) (by decide), hL10] at h; cases h), (fun _ h => by rw [h2 (by decide)] at h; cases h), fun _ => hpost.out⟩⟩
set_option maxHeartbeats 3200000 in
set_option maxRecDepth 100000 in
theorem wrt_1 {w : World} {F bf ba bb : Nat} {v bv : Value} (p : Int) (Post : World → Prop) (HK0 : Hid (WKeep w.drew F bf ba bb 1 p v bv))
    (HC : Hid (Calls Try.prog 82 #[v, .int .i64 p, bv] w.drew fun r w1 => ∃ a n c, r = .returned (.slice a n c) ∧ WKeep w1 F bf ba bb 1 p v bv ∧ Hid (Post (w1.setCell ⟨F, 1, none⟩ (.slice a n c))))) :
    Calls Try.prog 81 #[.int .i64 1, .pointer (some ⟨bf, 0, none⟩), .pointer (some ⟨ba, 0, none⟩), .pointer (some ⟨bb, 0, none⟩)] w fun r w' => r = .returned (.tuple #[]) ∧ Post w' := by
  go_enter Try.func81, Try.ntmps81
  refine wp_region_a (by kernel_rfl) 19 rfl [5, 6, 7, 8, 9, 10, 11, 12, 13, 14, 15, 16, 17, 18, 19] (fun _ _ => True) (factsOf [Is (.pointer (some ⟨F, 0, none⟩)), Is (.int .i64 1), Is (.pointer (some ⟨F, 0, none⟩)), Is (.int .i64 1), Is (.pointer (some ⟨F, 0, none⟩)), Is (.pointer (some ⟨F, 0, none⟩)), Is (.pointer (some ⟨F, 1, none⟩)), Is (v), Is (.int .i64 p), Is (bv), AnyB, Is (.pointer (some ⟨F, 0, none⟩)), Is (.pointer (some ⟨F, 0, none⟩)), Is (.pointer (some ⟨F, 1, none⟩)), AnyB]) (JA [10, 14] [15] (PWr w.drew F bf ba bb 1 p v bv Post)) ?mono0 ?hj0 (by kernel_rfl) ?start0 ?steps0 ?fin0
  case mono0 => exact factsOf_monoR (monoR_cons (Is.monoR _ _) (monoR_cons (Is.monoR _ _) (monoR_cons (Is.monoR _ _) (monoR_cons (Is.monoR _ _) (monoR_cons (Is.monoR _ _) (monoR_cons (Is.monoR _ _) (monoR_cons (Is.monoR _ _) (monoR_cons (Is.monoR _ _) (monoR_cons (Is.monoR _ _) (monoR_cons (Is.monoR _ _) (monoR_cons (AnyB.monoR _) (monoR_cons (Is.monoR _ _) (monoR_cons (Is.monoR _ _) (monoR_cons (Is.monoR _ _) (monoR_cons (AnyB.monoR _) (monoR_nil _))))))))))))))))
  case hj0 => exact JA.congr (by decide)
  case start0 =>
    refine JA.of fun L' y' h1 h2 => ?_
    exact ⟨fun _ => HK0.out, fun _ => rfl, (fun h => by rw [h1 10 (by decide)] at h; cases h), (fun h => by rw [h1 14 (by decide)] at h; cases h)⟩
  case fin0 =>
    intro y L w9 hJ hall hF hT
    have hP := hJ.out
    clear hJ hF
    have hpo := hP.c (hall 14 (by decide))
    clear hP hall hT
    go_end0
    exact ⟨rfl, hpo⟩
  case steps0 =>
    refine ⟨?_, ?_, ?_, ?_, ?_, ?_, ?_, ?_, ?_, ?_, ?_, ?_, ?_, ?_, ?_, trivial⟩
    all_goals intro L y w9 hJ hL hy0 hp0 hcl hun
    all_goals have hy := Lib.hid hy0
    all_goals have hp := Lib.hid hp0
    all_goals have HJ := Lib.hid hJ
    all_goals have HP := Lib.hid hJ.out
    all_goals have hU := Lib.hid hun
    all_goals clear hy0 hp0 hun hJ
    · have e1 : y 1 = .pointer (some ⟨bf, 0, none⟩) := hy.out 1 (by decide)
      have hN14 : L 14 = false := by
        cases h : L 14 with
        | false => rfl
        | true => have := (hcl 11 _ rfl (hcl 12 _ rfl (hcl 13 _ rfl (hcl 14 _ rfl h 13 (by decide)) 12 (by decide)) 11 (by decide)) 0 (by decide)); rw [hL] at this; cases this
      have q0 : w9.cell? ⟨bf, 0, none⟩ = some (.pointer (some ⟨F, 0, none⟩)) := (fun (_ : Nat) => (HP.out.k hN14).c1) 0
      intro K Q hK
      clear hcl hL
      have v1 := (eval_frame 19 y [] (t := 1) (by decide)).trans e1
      obtain ⟨A, hA⟩ : ∃ A, (⟨frameOf 19 y, []⟩ : Act) = A := ⟨_, rfl⟩
      rw [hA] at v1 hK ⊢
      clear hA hy hp
      simp only [Act.eval] at v1
      go_simp
      exact hK _ _ ⟨trivial, fun _ => rfl, HJ.out.pure (by decide) (by decide)⟩
    · have e1 : y 0 = .int .i64 1 := hy.out 0 (by decide)
      intro K Q hK
      clear hcl hL
      have v1 := (eval_frame 19 y [] (t := 0) (by decide)).trans e1
      obtain ⟨A, hA⟩ : ∃ A, (⟨frameOf 19 y, []⟩ : Act) = A := ⟨_, rfl⟩
      rw [hA] at v1 hK ⊢
      clear hA hy hp
      simp only [Act.eval] at v1
      go_simp
      exact hK _ _ ⟨trivial, fun _ => rfl, HJ.out.pure (by decide) (by decide)⟩
    · have e1 : y 1 = .pointer (some ⟨bf, 0, none⟩) := hy.out 1 (by decide)
      have hN14 : L 14 = false := by
        cases h : L 14 with
        | false => rfl
        | true => have := (hcl 4 _ rfl (hcl 5 _ rfl (hcl 6 _ rfl (hcl 7 _ rfl (hcl 10 _ rfl (hcl 14 _ rfl h 10 (by decide)) 7 (by decide)) 6 (by decide)) 5 (by decide)) 4 (by decide)) 2 (by decide)); rw [hL] at this; cases this
      have q0 : w9.cell? ⟨bf, 0, none⟩ = some (.pointer (some ⟨F, 0, none⟩)) := (fun (_ : Nat) => (HP.out.k hN14).c1) 0
      intro K Q hK
      clear hcl hL
      have v1 := (eval_frame 19 y [] (t := 1) (by decide)).trans e1
      obtain ⟨A, hA⟩ : ∃ A, (⟨frameOf 19 y, []⟩ : Act) = A := ⟨_, rfl⟩
      rw [hA] at v1 hK ⊢
      clear hA hy hp
      simp only [Act.eval] at v1
      go_simp
      exact hK _ _ ⟨trivial, fun _ => rfl, HJ.out.pure (by decide) (by decide)⟩
    · have e1 : y 0 = .int .i64 1 := hy.out 0 (by decide)
      intro K Q hK
      clear hcl hL
      have v1 := (eval_frame 19 y [] (t := 0) (by decide)).trans e1
      obtain ⟨A, hA⟩ : ∃ A, (⟨frameOf 19 y, []⟩ : Act) = A := ⟨_, rfl⟩
      rw [hA] at v1 hK ⊢
      clear hA hy hp
      simp only [Act.eval] at v1
      go_simp
      exact hK _ _ ⟨trivial, fun _ => rfl, HJ.out.pure (by decide) (by decide)⟩
    · have e1 : y 7 = .pointer (some ⟨F, 0, none⟩) := (hp.out 2 (by decide)).2 (by decide)
      intro K Q hK
      clear hcl hL
      have v1 := (eval_frame 19 y [] (t := 7) (by decide)).trans e1
      obtain ⟨A, hA⟩ : ∃ A, (⟨frameOf 19 y, []⟩ : Act) = A := ⟨_, rfl⟩
      rw [hA] at v1 hK ⊢
      clear hA hy hp
      simp only [Act.eval] at v1
      go_simp
      exact hK _ _ ⟨trivial, fun _ => rfl, HJ.out.pure (by decide) (by decide)⟩
    · have e1 : y 9 = .pointer (some ⟨F, 0, none⟩) := (hp.out 4 (by decide)).2 (by decide)
      intro K Q hK
      clear hcl hL
      have v1 := (eval_frame 19 y [] (t := 9) (by decide)).trans e1
      obtain ⟨A, hA⟩ : ∃ A, (⟨frameOf 19 y, []⟩ : Act) = A := ⟨_, rfl⟩
      rw [hA] at v1 hK ⊢
      clear hA hy hp
      simp only [Act.eval] at v1
      go_simp
      exact hK _ _ ⟨trivial, fun _ => rfl, HJ.out.pure (by decide) (by decide)⟩
    · have e1 : y 10 = .pointer (some ⟨F, 0, none⟩) := (hp.out 5 (by decide)).2 (by decide)
      have e2 : y 8 = .int .i64 1 := (hp.out 3 (by decide)).2 (by decide)
      intro K Q hK
      clear hcl hL
      have v1 := (eval_frame 19 y [] (t := 10) (by decide)).trans e1
      have v2 := (eval_frame 19 y [] (t := 8) (by decide)).trans e2
      obtain ⟨A, hA⟩ : ∃ A, (⟨frameOf 19 y, []⟩ : Act) = A := ⟨_, rfl⟩
      rw [hA] at v1 v2 hK ⊢
      clear hA hy hp
      simp only [Act.eval] at v1 v2
      go_simp
      exact hK _ _ ⟨trivial, fun _ => rfl, HJ.out.pure (by decide) (by decide)⟩
    · have e1 : y 11 = .pointer (some ⟨F, 1, none⟩) := (hp.out 6 (by decide)).2 (by decide)
      have hN14 : L 14 = false := by
        cases h : L 14 with
        | false => rfl
        | true => have := (hcl 10 _ rfl (hcl 14 _ rfl h 10 (by decide)) 7 (by decide)); rw [hL] at this; cases this
      have q1 : w9.cell? ⟨F, 1, none⟩ = some (v) := (fun (_ : Nat) => (HP.out.k hN14).c4) 1
      intro K Q hK
      clear hcl hL
      have v1 := (eval_frame 19 y [] (t := 11) (by decide)).trans e1
      obtain ⟨A, hA⟩ : ∃ A, (⟨frameOf 19 y, []⟩ : Act) = A := ⟨_, rfl⟩
      rw [hA] at v1 hK ⊢
      clear hA hy hp
      simp only [Act.eval] at v1
      go_simp
      exact hK _ _ ⟨trivial, fun _ => rfl, HJ.out.pure (by decide) (by decide)⟩
    · have e1 : y 2 = .pointer (some ⟨ba, 0, none⟩) := hy.out 2 (by decide)
      have hN14 : L 14 = false := by
        cases h : L 14 with
        | false => rfl
        | true => have := (hcl 10 _ rfl (hcl 14 _ rfl h 10 (by decide)) 8 (by decide)); rw [hL] at this; cases this
      have q0 : w9.cell? ⟨ba, 0, none⟩ = some (.int .i64 p) := (fun (_ : Nat) => (HP.out.k hN14).c2) 0
      intro K Q hK
      clear hcl hL
      have v1 := (eval_frame 19 y [] (t := 2) (by decide)).trans e1
      obtain ⟨A, hA⟩ : ∃ A, (⟨frameOf 19 y, []⟩ : Act) = A := ⟨_, rfl⟩
      rw [hA] at v1 hK ⊢
      clear hA hy hp
      simp only [Act.eval] at v1
      go_simp
      exact hK _ _ ⟨trivial, fun _ => rfl, HJ.out.pure (by decide) (by decide)⟩
    · have e1 : y 3 = .pointer (some ⟨bb, 0, none⟩) := hy.out 3 (by decide)
      have hN14 : L 14 = false := by
        cases h : L 14 with
        | false => rfl
        | true => have := (hcl 10 _ rfl (hcl 14 _ rfl h 10 (by decide)) 9 (by decide)); rw [hL] at this; cases this
      have q0 : w9.cell? ⟨bb, 0, none⟩ = some (bv) := (fun (_ : Nat) => (HP.out.k hN14).c3) 0
      intro K Q hK
      clear hcl hL
      have v1 := (eval_frame 19 y [] (t := 3) (by decide)).trans e1
      obtain ⟨A, hA⟩ : ∃ A, (⟨frameOf 19 y, []⟩ : Act) = A := ⟨_, rfl⟩
      rw [hA] at v1 hK ⊢
      clear hA hy hp
      simp only [Act.eval] at v1
      go_simp
      exact hK _ _ ⟨trivial, fun _ => rfl, HJ.out.pure (by decide) (by decide)⟩
    · have e1 : y 12 = v := (hp.out 7 (by decide)).2 (by decide)
      have e2 : y 13 = .int .i64 p := (hp.out 8 (by decide)).2 (by decide)
      have e3 : y 14 = bv := (hp.out 9 (by decide)).2 (by decide)
      have hN10 : L 10 = false := hL
      have hN14 : L 14 = false := by
        cases h : L 14 with
        | false => rfl
        | true => have := (hcl 14 _ rfl h 10 (by decide)); rw [hL] at this; cases this
      obtain rfl := HP.out.a hN10
      intro K Q hK
      clear hcl hL
      have v1 := (eval_frame 19 y [] (t := 12) (by decide)).trans e1
      have v2 := (eval_frame 19 y [] (t := 13) (by decide)).trans e2
      have v3 := (eval_frame 19 y [] (t := 14) (by decide)).trans e3
      obtain ⟨A, hA⟩ : ∃ A, (⟨frameOf 19 y, []⟩ : Act) = A := ⟨_, rfl⟩
      rw [hA] at v1 v2 v3 hK ⊢
      clear hA hy hp
      simp only [Act.eval] at v1 v2 v3
      go_simp
      refine HC.out.mono ?_
      rintro r w1 ⟨a, n, c', rfl, k1, k4⟩
      exact hK _ _ ⟨trivial, fun _ => trivial, JA.step fun L' y' h1 h2 h3 h4 => ⟨fun _ => k1, (fun h => by rw [h2 (by decide)] at h; cases h), fun _ _ => ⟨a, n, c', h4 (by decide), k4⟩, (fun h => by rw [h1 14 (by decide) (by decide), hN14] at h; cases h)⟩⟩
    · have e1 : y 5 = .pointer (some ⟨F, 0, none⟩) := (hp.out 0 (by decide)).2 (by decide)
      intro K Q hK
      clear hcl hL
      have v1 := (eval_frame 19 y [] (t := 5) (by decide)).trans e1
      obtain ⟨A, hA⟩ : ∃ A, (⟨frameOf 19 y, []⟩ : Act) = A := ⟨_, rfl⟩
      rw [hA] at v1 hK ⊢
      clear hA hy hp
      simp only [Act.eval] at v1
      go_simp
      exact hK _ _ ⟨trivial, fun _ => rfl, HJ.out.pure (by decide) (by decide)⟩
    · have e1 : y 16 = .pointer (some ⟨F, 0, none⟩) := (hp.out 11 (by decide)).2 (by decide)
      intro K Q hK
      clear hcl hL
      have v1 := (eval_frame 19 y [] (t := 16) (by decide)).trans e1
      obtain ⟨A, hA⟩ : ∃ A, (⟨frameOf 19 y, []⟩ : Act) = A := ⟨_, rfl⟩
      rw [hA] at v1 hK ⊢
      clear hA hy hp
      simp only [Act.eval] at v1
      go_simp
      exact hK _ _ ⟨trivial, fun _ => rfl, HJ.out.pure (by decide) (by decide)⟩
    · have e1 : y 17 = .pointer (some ⟨F, 0, none⟩) := (hp.out 12 (by decide)).2 (by decide)
      have e2 : y 6 = .int .i64 1 := (hp.out 1 (by decide)).2 (by decide)
      intro K Q hK
      clear hcl hL
      have v1 := (eval_frame 19 y [] (t := 17) (by decide)).trans e1
      have v2 := (eval_frame 19 y [] (t := 6) (by decide)).trans e2
      obtain ⟨A, hA⟩ : ∃ A, (⟨frameOf 19 y, []⟩ : Act) = A := ⟨_, rfl⟩
      rw [hA] at v1 v2 hK ⊢
      clear hA hy hp
      simp only [Act.eval] at v1 v2
      go_simp
      exact hK _ _ ⟨trivial, fun _ => rfl, HJ.out.pure (by decide) (by decide)⟩
    · have e1 : y 18 = .pointer (some ⟨F, 1, none⟩) := (hp.out 13 (by decide)).2 (by decide)
      have hL10 : L 10 = true := (hp.out 10 (by decide)).1
      obtain ⟨a', n', c', e2, hpost⟩ := HP.out.b hL10 hL
      have hN14 : L 14 = false := hL
      have fz := (HP.out.k hL).fz
      have q0 := (HP.out.k hL).c4
      intro K Q hK
      clear hcl hL
      have v1 := (eval_frame 19 y [] (t := 18) (by decide)).trans e1
      have v2 := (eval_frame 19 y [] (t := 15) (by decide)).trans e2
      obtain ⟨A, hA⟩ : ∃ A, (⟨frameOf 19 y, []⟩ : Act) = A := ⟨_, rfl⟩
      rw [hA] at v1 v2 hK ⊢
      clear hA hy hp
      simp only [Act.eval] at v1 v2
      go_simp
      exact hK undef _ ⟨trivial, fun h => absurd h (by decide), JA.step fun L' y' h1 h2 h3 h4 => ⟨(fun h => by rw [h2 (by decide)] at h; cases h), (fun h => by rw [h1 10 (by decide) (by decide), hL10] at h; cases h), (fun _ h => by rw [h2 (by decide)] at h; cases h), fun _ => hpost.out⟩⟩
end Go.Proofs.Ythogdieplfpopaa
