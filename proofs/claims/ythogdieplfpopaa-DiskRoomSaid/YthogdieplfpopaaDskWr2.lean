/-
  What is proved here: the region of a write's closure: find, Clone, write.
  Conditions: none.
-/
import Derived.Test.YthogdieplfpopaaDskNew
import Derived.Test.YthogdieplfpopaaFWords
namespace Go.Proofs.Ythogdieplfpopaa
open Go.RowKit Go.WideMaps Go.Maps
set_option linter.unusedVariables false
set_option linter.unusedSimpArgs false

structure W2Bx (w : World) (S : Sh) (bd bn bp bb : Nat) (x : ByteArray) (p : Int) (bv : Value) : Prop where
  b1 : Blk w bd #[.pointer (some ⟨S.g, 0, none⟩)] 24
  b2 : Blk w bn #[.string x] 9
  b3 : Blk w bp #[.int .i64 p] 3
  b4 : Blk w bb #[bv] 32
structure PW2 (w0 : World) (n : Nat) (xs : List Value) (Post : World → Prop) (L : Nat → Bool) (y : Nat → Value) (w : World) : Prop where
  a : L 7 = false → Below w0.heap.size w0 w
  b : L 6 = true → L 7 = false → ∃ v, y 10 = v ∧ w.ownsRow w0.heap.size 5 1 v n xs
  c : L 7 = true → Post w
set_option maxHeartbeats 3200000 in
set_option maxRecDepth 100000 in
theorem wr2_reg {w : World} {S : Sh} {F bd bn bp bb n : Nat} {xs : List Value} {x : ByteArray} {p : Int} {bv : Value} (Post : World → Prop)
    (HBX : Hid (∀ w9, Below w.drew.heap.size w.drew w9 → W2Bx w9 S bd bn bp bb x p bv))
    (HFI : Hid (∀ w9, Below w.drew.heap.size w.drew w9 → Calls Try.prog 39 #[.pointer (some ⟨S.g, 0, none⟩), .string x] w9 fun r w' => w' = w9 ∧ r = .returned (.pointer (some ⟨S.fb F, 0, none⟩))))
    (HCL : Hid (∀ w9, Below w.drew.heap.size w.drew w9 → Calls Try.prog 47 #[bv] w9 fun r w1 => ∃ v', r = .returned v' ∧ Below w.drew.heap.size w.drew w1 ∧ w1.ownsRow w.drew.heap.size 5 1 v' n xs))
    (HWR : Hid (∀ w9 v', Below w.drew.heap.size w.drew w9 → w9.ownsRow w.drew.heap.size 5 1 v' n xs → Calls Try.prog 46 #[.pointer (some ⟨S.g, 0, none⟩), .pointer (some ⟨S.fb F, 0, none⟩), .int .i64 p, v'] w9 fun r w1 => r = .returned (.tuple #[]) ∧ Hid (Post w1))) :
    Calls Try.prog 45 #[.pointer (some ⟨bd, 0, none⟩), .pointer (some ⟨bn, 0, none⟩), .pointer (some ⟨bp, 0, none⟩), .pointer (some ⟨bb, 0, none⟩)] w fun r w' => r = .returned (.tuple #[]) ∧ Post w' := by
  go_enter Try.func45, Try.ntmps45
  refine wp_region_a (by kernel_rfl) 12 rfl [4, 5, 6, 7, 8, 9, 10, 11] (fun _ _ => True) (factsOf [Is (.pointer (some ⟨S.g, 0, none⟩)), Is (.pointer (some ⟨S.g, 0, none⟩)), Is (.string x), Is (.pointer (some ⟨S.fb F, 0, none⟩)), Is (.int .i64 p), Is (bv), AnyB, AnyB]) (JA [6, 7] [10] (PW2 w.drew n xs Post)) ?mono0 ?hj0 (by kernel_rfl) ?start0 ?steps0 ?fin0
  case mono0 => exact factsOf_monoR (monoR_cons (Is.monoR _ _) (monoR_cons (Is.monoR _ _) (monoR_cons (Is.monoR _ _) (monoR_cons (Is.monoR _ _) (monoR_cons (Is.monoR _ _) (monoR_cons (Is.monoR _ _) (monoR_cons (AnyB.monoR _) (monoR_cons (AnyB.monoR _) (monoR_nil _)))))))))
  case hj0 => exact JA.congr (by decide)
  case start0 =>
    refine JA.of fun L' y' h1 h2 => ?_
    exact ⟨fun _ => Below.refl _ _, (fun h => by rw [h1 6 (by decide)] at h; cases h), (fun h => by rw [h1 7 (by decide)] at h; cases h)⟩
  case fin0 =>
    intro y L w9 hJ hall hF hT
    have hP := hJ.out
    clear hJ hF
    have hpo := hP.c (hall 7 (by decide))
    clear hP hall hT
    go_end0
    exact ⟨rfl, hpo⟩
  case steps0 =>
    refine ⟨?_, ?_, ?_, ?_, ?_, ?_, ?_, ?_, trivial⟩
    all_goals intro L y w9 hJ hL hy0 hp0 hcl hun
    all_goals have hy := Lib.hid hy0
    all_goals have hp := Lib.hid hp0
    all_goals have HJ := Lib.hid hJ
    all_goals have HP := Lib.hid hJ.out
    all_goals have hU := Lib.hid hun
    all_goals clear hy0 hp0 hun hJ
    · have e1 : y 0 = .pointer (some ⟨bd, 0, none⟩) := hy.out 0 (by decide)
      have hN7 : L 7 = false := by
        cases h : L 7 with
        | false => rfl
        | true => have := (hcl 7 _ rfl h 0 (by decide)); rw [hL] at this; cases this
      have q0 : w9.cell? ⟨bd, 0, none⟩ = some (.pointer (some ⟨S.g, 0, none⟩)) := (HBX.out _ (HP.out.a hN7)).b1.cell 0
      intro K Q hK
      clear hcl hL
      have v1 := (eval_frame 12 y [] (t := 0) (by decide)).trans e1
      obtain ⟨A, hA⟩ : ∃ A, (⟨frameOf 12 y, []⟩ : Act) = A := ⟨_, rfl⟩
      rw [hA] at v1 hK ⊢
      clear hA hy hp
      simp only [Act.eval] at v1
      go_simp
      exact hK _ _ ⟨trivial, fun _ => rfl, HJ.out.pure (by decide) (by decide)⟩
    · have e1 : y 0 = .pointer (some ⟨bd, 0, none⟩) := hy.out 0 (by decide)
      have hN7 : L 7 = false := by
        cases h : L 7 with
        | false => rfl
        | true => have := (hcl 3 _ rfl (hcl 7 _ rfl h 3 (by decide)) 1 (by decide)); rw [hL] at this; cases this
      have q0 : w9.cell? ⟨bd, 0, none⟩ = some (.pointer (some ⟨S.g, 0, none⟩)) := (HBX.out _ (HP.out.a hN7)).b1.cell 0
      intro K Q hK
      clear hcl hL
      have v1 := (eval_frame 12 y [] (t := 0) (by decide)).trans e1
      obtain ⟨A, hA⟩ : ∃ A, (⟨frameOf 12 y, []⟩ : Act) = A := ⟨_, rfl⟩
      rw [hA] at v1 hK ⊢
      clear hA hy hp
      simp only [Act.eval] at v1
      go_simp
      exact hK _ _ ⟨trivial, fun _ => rfl, HJ.out.pure (by decide) (by decide)⟩
    · have e1 : y 1 = .pointer (some ⟨bn, 0, none⟩) := hy.out 1 (by decide)
      have hN7 : L 7 = false := by
        cases h : L 7 with
        | false => rfl
        | true => have := (hcl 3 _ rfl (hcl 7 _ rfl h 3 (by decide)) 2 (by decide)); rw [hL] at this; cases this
      have q0 : w9.cell? ⟨bn, 0, none⟩ = some (.string x) := (HBX.out _ (HP.out.a hN7)).b2.cell 0
      intro K Q hK
      clear hcl hL
      have v1 := (eval_frame 12 y [] (t := 1) (by decide)).trans e1
      obtain ⟨A, hA⟩ : ∃ A, (⟨frameOf 12 y, []⟩ : Act) = A := ⟨_, rfl⟩
      rw [hA] at v1 hK ⊢
      clear hA hy hp
      simp only [Act.eval] at v1
      go_simp
      exact hK _ _ ⟨trivial, fun _ => rfl, HJ.out.pure (by decide) (by decide)⟩
    · have e1 : y 5 = .pointer (some ⟨S.g, 0, none⟩) := (hp.out 1 (by decide)).2 (by decide)
      have e2 : y 6 = .string x := (hp.out 2 (by decide)).2 (by decide)
      have hN7 : L 7 = false := by
        cases h : L 7 with
        | false => rfl
        | true => have := (hcl 7 _ rfl h 3 (by decide)); rw [hL] at this; cases this
      intro K Q hK
      clear hcl hL
      have v1 := (eval_frame 12 y [] (t := 5) (by decide)).trans e1
      have v2 := (eval_frame 12 y [] (t := 6) (by decide)).trans e2
      obtain ⟨A, hA⟩ : ∃ A, (⟨frameOf 12 y, []⟩ : Act) = A := ⟨_, rfl⟩
      rw [hA] at v1 v2 hK ⊢
      clear hA hy hp
      simp only [Act.eval] at v1 v2
      go_simp
      refine (HFI.out _ (HP.out.a hN7)).mono ?_
      rintro r w1 ⟨rfl, rfl⟩
      exact hK _ _ ⟨trivial, fun _ => rfl, HJ.out.pure (by decide) (by decide)⟩
    · have e1 : y 2 = .pointer (some ⟨bp, 0, none⟩) := hy.out 2 (by decide)
      have hN7 : L 7 = false := by
        cases h : L 7 with
        | false => rfl
        | true => have := (hcl 7 _ rfl h 4 (by decide)); rw [hL] at this; cases this
      have q0 : w9.cell? ⟨bp, 0, none⟩ = some (.int .i64 p) := (HBX.out _ (HP.out.a hN7)).b3.cell 0
      intro K Q hK
      clear hcl hL
      have v1 := (eval_frame 12 y [] (t := 2) (by decide)).trans e1
      obtain ⟨A, hA⟩ : ∃ A, (⟨frameOf 12 y, []⟩ : Act) = A := ⟨_, rfl⟩
      rw [hA] at v1 hK ⊢
      clear hA hy hp
      simp only [Act.eval] at v1
      go_simp
      exact hK _ _ ⟨trivial, fun _ => rfl, HJ.out.pure (by decide) (by decide)⟩
    · have e1 : y 3 = .pointer (some ⟨bb, 0, none⟩) := hy.out 3 (by decide)
      have hN7 : L 7 = false := by
        cases h : L 7 with
        | false => rfl
        | true => have := (hcl 6 _ rfl (hcl 7 _ rfl h 6 (by decide)) 5 (by decide)); rw [hL] at this; cases this
      have q0 : w9.cell? ⟨bb, 0, none⟩ = some (bv) := (HBX.out _ (HP.out.a hN7)).b4.cell 0
      intro K Q hK
      clear hcl hL
      have v1 := (eval_frame 12 y [] (t := 3) (by decide)).trans e1
      obtain ⟨A, hA⟩ : ∃ A, (⟨frameOf 12 y, []⟩ : Act) = A := ⟨_, rfl⟩
      rw [hA] at v1 hK ⊢
      clear hA hy hp
      simp only [Act.eval] at v1
      go_simp
      exact hK _ _ ⟨trivial, fun _ => rfl, HJ.out.pure (by decide) (by decide)⟩
    · have e1 : y 9 = bv := (hp.out 5 (by decide)).2 (by decide)
      have hN6 : L 6 = false := hL
      have hN7 : L 7 = false := by
        cases h : L 7 with
        | false => rfl
        | true => have := (hcl 7 _ rfl h 6 (by decide)); rw [hL] at this; cases this
      intro K Q hK
      clear hcl hL
      have v1 := (eval_frame 12 y [] (t := 9) (by decide)).trans e1
      obtain ⟨A, hA⟩ : ∃ A, (⟨frameOf 12 y, []⟩ : Act) = A := ⟨_, rfl⟩
      rw [hA] at v1 hK ⊢
      clear hA hy hp
      simp only [Act.eval] at v1
      go_simp
      refine (HCL.out _ (HP.out.a hN7)).mono ?_
      rintro r w1 ⟨v', rfl, hb1, hr1⟩
      exact hK _ _ ⟨trivial, fun _ => trivial, JA.step fun L' y' h1 h2 h3 h4 => ⟨fun _ => hb1, fun _ _ => ⟨v', h4 (by decide), hr1⟩, fun h => (by rw [h1 7 (by decide) (by decide), hN7] at h; cases h)⟩⟩
    · have e1 : y 4 = .pointer (some ⟨S.g, 0, none⟩) := (hp.out 0 (by decide)).2 (by decide)
      have e2 : y 7 = .pointer (some ⟨S.fb F, 0, none⟩) := (hp.out 3 (by decide)).2 (by decide)
      have e3 : y 8 = .int .i64 p := (hp.out 4 (by decide)).2 (by decide)
      have hL6 : L 6 = true := (hp.out 6 (by decide)).1
      obtain ⟨v', e4, hrow⟩ := HP.out.b hL6 hL
      have hN7 : L 7 = false := hL
      have hbel := HP.out.a hL
      intro K Q hK
      clear hcl hL
      have v1 := (eval_frame 12 y [] (t := 4) (by decide)).trans e1
      have v2 := (eval_frame 12 y [] (t := 7) (by decide)).trans e2
      have v3 := (eval_frame 12 y [] (t := 8) (by decide)).trans e3
      have v4 := (eval_frame 12 y [] (t := 10) (by decide)).trans e4
      obtain ⟨A, hA⟩ : ∃ A, (⟨frameOf 12 y, []⟩ : Act) = A := ⟨_, rfl⟩
      rw [hA] at v1 v2 v3 v4 hK ⊢
      clear hA hy hp
      simp only [Act.eval] at v1 v2 v3 v4
      go_simp
      refine (HWR.out _ _ hbel hrow).mono ?_
      rintro r w1 ⟨rfl, hpo⟩
      exact hK _ _ ⟨trivial, fun _ => trivial, JA.step fun L' y' h1 h2 h3 h4 => ⟨fun h => (by rw [h2 (by decide)] at h; cases h), fun _ h => (by rw [h2 (by decide)] at h; cases h), fun _ => hpo.out⟩⟩
end Go.Proofs.Ythogdieplfpopaa
