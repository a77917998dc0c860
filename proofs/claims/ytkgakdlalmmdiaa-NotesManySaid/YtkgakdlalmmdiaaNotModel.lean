/-
  What is proved here: what the statements of notes ask of their own: few, model, same.
  Conditions: none but that the arguments are values of their types.
-/
import Derived.Test.YtkgakdlalmmdiaaNotRGet
import Derived.Test.YtkgakdlalmmdiaaFRun
import Derived.MapKept
namespace Go.Proofs.Ytkgakdlalmmdiaa
open Go.RowKit
set_option linter.unusedVariables false
set_option linter.unusedSimpArgs false

/-- Few enough. -/
def bigN (s : Nt) : Bool := decide (500 < s.na.size ∨ 500 < s.de.n)
def fewN (L : List Nt) : Bool := decide (L.length ≤ 20) && !L.any bigN
theorem fewN_no {L : List Nt} {k : Nat} (hk : k < L.length) (h : bigN (L.getD k Nt.zero) = true) : fewN L = false := by
  have : L.any bigN = true := List.any_eq_true.2 ⟨_, Nt.getD_mem hk, h⟩
  unfold fewN; rw [this]; simp
theorem fewN_long {L : List Nt} (h : 20 < L.length) : fewN L = false := by
  unfold fewN
  rw [decide_eq_false (by omega)]; rfl
theorem fewN_yes {L : List Nt} (h : L.length ≤ 20) (hb : ∀ j, j < L.length → bigN (L.getD j Nt.zero) = false) : fewN L = true := by
  unfold fewN
  have : L.any bigN = false := by
    rw [List.any_eq_false]
    intro x hx
    obtain ⟨i, hi, rfl⟩ := List.getElem_of_mem hx
    have := hb i hi
    rw [List.getD_eq_getElem?_getD, List.getElem?_eq_getElem hi] at this
    simpa using this
  rw [decide_eq_true h, this]; rfl
theorem upto_no {P : Nat → Bool} {k : Nat} (h : ∀ j, j < k → P j = false) (hk : P k = false) : ∀ j, j < k + 1 → P j = false := by
  intro j hj
  by_cases e : j = k
  · subst e; exact hk
  · exact h j (by omega)
set_option maxHeartbeats 1600000 in
theorem few8_any (B : Nat) (a : Option Addr) (len cap : Nat) (L : List Nt) (w : World) (hs : Nt.Sl w B a len L) (hl : (len : Int) ≤ 9223372036854775807) :
    Calls Try.prog 10 #[.slice a len cap] w fun e w' => e = .returned (.bool (fewN L)) ∧ w = w' := by
  obtain ⟨r, hr⟩ : ∃ r, fewN L = r := ⟨_, rfl⟩
  rw [hr]
  have HN : Hid (∀ k, k < len → bigN (L.getD k Nt.zero) = true → r = false) := Lib.hid (fun k hk h => hr ▸ fewN_no (by rw [hs.hl]; exact hk) h)
  have HY : Hid (len ≤ 20 → (∀ j, j < len → bigN (L.getD j Nt.zero) = false) → r = true) := Lib.hid (fun h1 h2 => hr ▸ fewN_yes (by rw [hs.hl]; exact h1) (by rw [hs.hl]; exact h2))
  have HL : Hid (20 < len → r = false) := Lib.hid (fun h => hr ▸ fewN_long (by rw [hs.hl]; exact h))
  have HS := Lib.hid hs
  clear hr hs
  by_cases h20 : 20 < len
  · have hi : (20 : Int) < len := by omega
    obtain rfl := HL.out h20
    go_enter Try.func10, Try.ntmps10
    go_wp2
    go_ret
    exact ⟨rfl, rfl⟩
  · have hi : (len : Int) ≤ 20 := by omega
    go_enter Try.func10, Try.ntmps10
    go_wp2
    go_loop [3] (fun i => ∃ k : Nat, k ≤ len ∧ i = .int .i64 k ∧ ∀ j, j < k → bigN (L.getD j Nt.zero) = false) (fun i => len - (intOf i).toNat)
    case atStart => exact ⟨0, Nat.zero_le _, rfl, fun j hj => absurd hj (by omega)⟩
    case round =>
      obtain ⟨k, hk, rfl, hno⟩ := hrel
      by_cases hlt : k < len
      · obtain ⟨b, off, rfl, hbB, hcell⟩ := HS.out.hc (by omega)
        obtain ⟨c0, c1, c2⟩ := hcell k hlt
        have hok := HS.out.okAt hlt
        have HX := Lib.hid (HN.out k hlt)
        have HNX := Lib.hid (upto_no (P := fun j => bigN (L.getD j Nt.zero)) hno)
        generalize L.getD k Nt.zero = s at c0 c1 c2 hok HX HNX
        obtain ⟨na, ty, de⟩ := s
        simp only at c0 c1 c2 hok
        have hn1 : (na.size : Int) ≤ 9223372036854775807 := by have := hok.na; unfold maxLen at this; simp only at this; omega
        have hd1 : (de.n : Int) ≤ 9223372036854775807 := by have h1 := hok.de.le; have h2 := hok.de.max; simp only at h1 h2; omega
        have hlti : (k : Int) < len := by omega
        clear hcell hno hok
        go_wp2
        all_goals first
          | (go_ret
             refine ⟨ret_bool (HX.out ?_).symm, rfl⟩
             unfold bigN
             rw [decide_eq_true_eq]
             simp only
             omega)
          | (refine ⟨⟨k + 1, by omega, by go_num, HNX.out ?_⟩, by (simp [intOf] <;> omega)⟩
             unfold bigN
             rw [decide_eq_false_iff_not]
             simp only
             omega)
      · obtain rfl : k = len := by omega
        have HR := Lib.hid (HY.out (by omega) hno)
        clear hno
        go_wp2
        go_ret
        exact ⟨ret_bool HR.out.symm, rfl⟩

theorem fr31 (y : Nat → Value) : frameOf 31 y = #[y 0, y 1, y 2, y 3, y 4, y 5, y 6, y 7, y 8, y 9, y 10, y 11, y 12, y 13, y 14, y 15, y 16, y 17, y 18, y 19, y 20, y 21, y 22, y 23, y 24, y 25, y 26, y 27, y 28, y 29, y 30] := rfl
theorem one_cells8 (s : Nt) : ∀ u ∈ [Value.string s.na, .int .u32 s.ty, .slice s.de.a s.de.n s.de.c], u.oneCell' = true := by
  intro u hu
  simp only [List.mem_cons, List.not_mem_nil, or_false] at hu
  rcases hu with rfl | rfl | rfl <;> rfl
set_option maxRecDepth 100000 in
set_option maxHeartbeats 3200000 in
theorem model8_any (B : Nat) (a : Option Addr) (len cap : Nat) (L : List Nt) (w : World) (hs : Nt.Sl w B a len L) (hB : B ≤ w.heap.size) (hl : len ≤ 1000000) :
    Calls Try.prog 13 #[.slice a len cap] w fun r w' => (∃ ua uc, r = .returned (.slice ua len uc) ∧ len ≤ uc ∧ (uc : Int) ≤ 9223372036854775807 ∧ Nt.Sl w' w'.heap.size ua len L) ∧ Below w.heap.size w w' := by
  obtain ⟨i0, hi, hz0, hz1, hz2⟩ := info_parts info_n8
  have HI := Lib.hid hi
  have HZ0 := Lib.hid hz0
  have HZ1 := Lib.hid hz1
  have HZ2 := Lib.hid hz2
  have HS := Lib.hid hs
  have hli : (len : Int) ≤ 1000000 := by omega
  have HLL : Hid (L.take len = L) := Lib.hid (List.take_of_length_le (by rw [hs.hl]; exact Nat.le_refl _))
  clear hi hz0 hz1 hz2 hs
  go_enter Try.func13, Try.ntmps13
  go_wp2
  go_loopw [3, 4] (fun v i wr => ∃ k : Nat, k ≤ len ∧ i = .int .i64 k ∧ wr.ownsRow w.heap.size 51 3 v k (Nt.flat (L.take k)) ∧ Below w.heap.size w wr) (fun _ i _ => len - (intOf i).toNat)
  case atStart => exact ⟨0, Nat.zero_le _, rfl, World.ownsRow_nil _ _ _ _, Below.refl _ _⟩
  case round =>
    obtain ⟨k, hk, rfl, hown, hbel⟩ := hrel
    by_cases hlt : k < len
    · obtain ⟨b, off, rfl, hbB, hcell⟩ := HS.out.hc (by omega)
      have hat : Hid (∀ w', Below w.heap.size wr w' → Nt.At w' b (off + k * 3) (L.getD k Nt.zero)) := Lib.hid (fun w' h => (hcell k hlt).below ((hbel.trans h).mono hB) hbB)
      have HTS : Hid (L.take (k + 1) = L.take k ++ [L.getD k Nt.zero]) := Lib.hid (Nt.take_snoc (by rw [HS.out.hl]; exact hlt))
      generalize L.getD k Nt.zero = s at hat HTS
      have HOC := Lib.hid (one_cells8 s)
      obtain ⟨na, ty, de⟩ := s
      simp only at HOC
      have HC1 : Hid (∀ w', Below w.heap.size wr w' → w'.cell? ⟨b, off + k * 3, none⟩ = some (.string na)) := Lib.hid (fun w' h => (hat.out w' h).c0)
      have HC2 : Hid (∀ w', Below w.heap.size wr w' → w'.cell? ⟨b, off + k * 3 + 1, none⟩ = some (.int .u32 ty)) := Lib.hid (fun w' h => (hat.out w' h).c1)
      have HC3 : Hid (∀ w', Below w.heap.size wr w' → w'.cell? ⟨b, off + k * 3 + 2, none⟩ = some (.slice de.a de.n de.c)) := Lib.hid (fun w' h => (hat.out w' h).c2)
      have hsz := hbel.size
      have hlti : (k : Int) < len := by omega
      obtain ⟨la, lc, rfl, -, -⟩ := Nt.own_slice hown
      obtain ⟨W1, hW1⟩ : ∃ W1, W1 = (wr.alloc (.cells #[.string na, .int .u32 ty, .slice de.a de.n de.c] 51)).drew := ⟨_, rfl⟩
      have hsW1 : wr.heap.size ≤ W1.heap.size := by rw [hW1]; show wr.heap.size ≤ (wr.alloc _).heap.size; rw [World.size_alloc]; omega
      obtain ⟨v', W2, hrun, hown2, hg2, -⟩ := run_append_own (P := Try.prog) W1 w.heap.size 30 30 51 i0 _ 3 48 Try.underlying30 HI.out HZ0.out HZ1.out HZ2.out rfl (by decide) _ k _ (by rw [hW1]; exact (World.ownsRow.alloc hown _)) ⟨wr.heap.size, 0, none⟩ 1 1 [.string na, .int .u32 ty, .slice de.a de.n de.c] rfl (by rw [hW1]; exact cells8_new wr _ _ _ rfl) HOC.out (by unfold maxLen; omega) (by omega) (by omega)
      have HRUN := Lib.hid hrun
      have hbW1 : Below w.heap.size wr W1 := by rw [hW1]; exact ((Below.refl _ _).alloc hsz _).drew
      have hbW2 : Below w.heap.size wr W2 := hbW1.grown hg2 (by omega) (fun q e => (hown.lt q e).1)
      have HBW : Hid (∀ L x, J2 17 18 wr.drew W1 W2 L x → Below w.heap.size wr x) := Lib.hid (fun L x h => h.all (p := fun x => Below w.heap.size wr x) (Below.refl _ _).drew hbW1 hbW2)
      have HO2 : Hid (W2.ownsRow w.heap.size 51 3 v' (k + 1) (Nt.flat (L.take (k + 1)))) := Lib.hid (by
        rw [HTS.out, Nt.flat_snoc]; exact hown2)
      have HB2 := Lib.hid (hbel.trans hbW2)
      have HW1 := Lib.hid hW1
      clear hrun hown2 hg2 hbW1 hbW2 hW1 hown hbel hcell
      go_wp2_with fail
      refine wp_region_run (by kernel_rfl) 31 rfl [11, 12, 13, 14, 15, 16, 17, 18, 19, 20, 21, 22, 23, 24, 25, 26, 27, 28, 29, 3] [.slice la k lc, .slice (some ⟨b, off, none⟩) len cap, .int .i64 (k), .pointer (some ⟨b, off + k * 3, none⟩), .pointer (some ⟨b, off + k * 3, none⟩), .string na, .slice (some ⟨b, off, none⟩) len cap, .int .i64 (k), .pointer (some ⟨b, off + k * 3, none⟩), .pointer (some ⟨b, off + k * 3 + 1, none⟩), .int .u32 ty, .slice (some ⟨b, off, none⟩) len cap, .int .i64 (k), .pointer (some ⟨b, off + k * 3, none⟩), .pointer (some ⟨b, off + k * 3 + 2, none⟩), .slice de.a de.n de.c, .agg #[.string na, .int .u32 ty, .slice de.a de.n de.c], .slice (some ⟨wr.heap.size, 0, none⟩) 1 1, v', v'] (J2 17 18 wr.drew W1 W2) ?hj (by kernel_rfl) ?start ?steps ?fin
      case hj => exact J2.congr (by decide) (by decide)
      case start => exact rfl
      case fin =>
        intro L w3 hJ hall
        obtain rfl := hJ.done (hall 18 (by decide))
        clear hJ hall
        simp only [putAll, List.set_cons_succ, List.set_cons_zero, Nat.reduceAdd, List.getD_cons_succ, List.getD_cons_zero]
        go_wp2
        go_roundw
        case rel => exact ⟨k + 1, by omega, by go_num, HO2.out, HB2.out⟩
        case measure => (simp [intOf] <;> omega)
      case steps =>
        refine ⟨?_, ?_, ?_, ?_, ?_, ?_, ?_, ?_, ?_, ?_, ?_, ?_, ?_, ?_, ?_, ?_, ?_, ?_, ?_, ?_, trivial⟩
        all_goals intro L y w3 hJ hL hy0 hp0 hcl hun
        all_goals have hy := Lib.hid hy0
        all_goals have hp := Lib.hid hp0
        all_goals have hb3 := Lib.hid (HBW.out _ _ hJ)
        all_goals clear hy0 hp0
        · have hLl : L 19 = false := by
            cases h : L 19 with
            | false => rfl
            | true => have := hcl 19 _ rfl h 0 (by decide); rw [hL] at this; cases this
          exact step_move (.tmp 3) (.inl rfl) ⟨fun _ => (eval_frame 31 y _ (by decide)).trans (hun 19 (by decide) hLl (by decide)), hJ.pure (by decide) (by decide)⟩
        · have e1 : y 0 = .slice (some ⟨b, off, none⟩) len cap := hy.out 0 (by decide)
          have hJ3 := Lib.hid (hJ.pure (show (17 : Nat) ≠ 1 by decide) (show (18 : Nat) ≠ 1 by decide))
          intro K Q hK
          simp only [fr31] at hK ⊢
          rw [e1] at hK ⊢
          clear hcl hun hJ
          go_simp
          exact hK _ _ ⟨fun _ => rfl, hJ3.out⟩
        · have e1 : y 4 = .int .i64 (k) := hy.out 4 (by decide)
          have hJ3 := Lib.hid (hJ.pure (show (17 : Nat) ≠ 2 by decide) (show (18 : Nat) ≠ 2 by decide))
          intro K Q hK
          simp only [fr31] at hK ⊢
          rw [e1] at hK ⊢
          clear hcl hun hJ
          go_simp
          exact hK _ _ ⟨fun _ => rfl, hJ3.out⟩
        · have e1 : y 12 = .slice (some ⟨b, off, none⟩) len cap := (hp.out 1 (by decide)).2 (by decide)
          have e2 : y 13 = .int .i64 (k) := (hp.out 2 (by decide)).2 (by decide)
          have hJ3 := Lib.hid (hJ.pure (show (17 : Nat) ≠ 3 by decide) (show (18 : Nat) ≠ 3 by decide))
          intro K Q hK
          simp only [fr31] at hK ⊢
          rw [e1, e2] at hK ⊢
          clear hcl hun hJ
          go_simp
          first | exact hK _ _ ⟨fun _ => rfl, hJ3.out⟩ | (rw [if_pos ⟨by omega, by omega⟩]; exact hK _ _ ⟨fun _ => rfl, hJ3.out⟩)
        · have e1 : y 14 = .pointer (some ⟨b, off + k * 3, none⟩) := (hp.out 3 (by decide)).2 (by decide)
          have hJ3 := Lib.hid (hJ.pure (show (17 : Nat) ≠ 4 by decide) (show (18 : Nat) ≠ 4 by decide))
          intro K Q hK
          simp only [fr31] at hK ⊢
          rw [e1] at hK ⊢
          clear hcl hun hJ
          go_simp
          exact hK _ _ ⟨fun _ => rfl, hJ3.out⟩
        · have e1 : y 15 = .pointer (some ⟨b, off + k * 3, none⟩) := (hp.out 4 (by decide)).2 (by decide)
          have hJ3 := Lib.hid (hJ.pure (show (17 : Nat) ≠ 5 by decide) (show (18 : Nat) ≠ 5 by decide))
          have hce := HC1.out _ hb3.out
          intro K Q hK
          simp only [fr31] at hK ⊢
          rw [e1] at hK ⊢
          clear hcl hun hJ
          go_simp
          exact hK _ _ ⟨fun _ => rfl, hJ3.out⟩
        · have e1 : y 0 = .slice (some ⟨b, off, none⟩) len cap := hy.out 0 (by decide)
          have hJ3 := Lib.hid (hJ.pure (show (17 : Nat) ≠ 6 by decide) (show (18 : Nat) ≠ 6 by decide))
          intro K Q hK
          simp only [fr31] at hK ⊢
          rw [e1] at hK ⊢
          clear hcl hun hJ
          go_simp
          exact hK _ _ ⟨fun _ => rfl, hJ3.out⟩
        · have e1 : y 4 = .int .i64 (k) := hy.out 4 (by decide)
          have hJ3 := Lib.hid (hJ.pure (show (17 : Nat) ≠ 7 by decide) (show (18 : Nat) ≠ 7 by decide))
          intro K Q hK
          simp only [fr31] at hK ⊢
          rw [e1] at hK ⊢
          clear hcl hun hJ
          go_simp
          exact hK _ _ ⟨fun _ => rfl, hJ3.out⟩
        · have e1 : y 17 = .slice (some ⟨b, off, none⟩) len cap := (hp.out 6 (by decide)).2 (by decide)
          have e2 : y 18 = .int .i64 (k) := (hp.out 7 (by decide)).2 (by decide)
          have hJ3 := Lib.hid (hJ.pure (show (17 : Nat) ≠ 8 by decide) (show (18 : Nat) ≠ 8 by decide))
          intro K Q hK
          simp only [fr31] at hK ⊢
          rw [e1, e2] at hK ⊢
          clear hcl hun hJ
          go_simp
          first | exact hK _ _ ⟨fun _ => rfl, hJ3.out⟩ | (rw [if_pos ⟨by omega, by omega⟩]; exact hK _ _ ⟨fun _ => rfl, hJ3.out⟩)
        · have e1 : y 19 = .pointer (some ⟨b, off + k * 3, none⟩) := (hp.out 8 (by decide)).2 (by decide)
          have hJ3 := Lib.hid (hJ.pure (show (17 : Nat) ≠ 9 by decide) (show (18 : Nat) ≠ 9 by decide))
          intro K Q hK
          simp only [fr31] at hK ⊢
          rw [e1] at hK ⊢
          clear hcl hun hJ
          go_simp
          exact hK _ _ ⟨fun _ => rfl, hJ3.out⟩
        · have e1 : y 20 = .pointer (some ⟨b, off + k * 3 + 1, none⟩) := (hp.out 9 (by decide)).2 (by decide)
          have hJ3 := Lib.hid (hJ.pure (show (17 : Nat) ≠ 10 by decide) (show (18 : Nat) ≠ 10 by decide))
          have hce := HC2.out _ hb3.out
          intro K Q hK
          simp only [fr31] at hK ⊢
          rw [e1] at hK ⊢
          clear hcl hun hJ
          go_simp
          exact hK _ _ ⟨fun _ => rfl, hJ3.out⟩
        · have e1 : y 0 = .slice (some ⟨b, off, none⟩) len cap := hy.out 0 (by decide)
          have hJ3 := Lib.hid (hJ.pure (show (17 : Nat) ≠ 11 by decide) (show (18 : Nat) ≠ 11 by decide))
          intro K Q hK
          simp only [fr31] at hK ⊢
          rw [e1] at hK ⊢
          clear hcl hun hJ
          go_simp
          exact hK _ _ ⟨fun _ => rfl, hJ3.out⟩
        · have e1 : y 4 = .int .i64 (k) := hy.out 4 (by decide)
          have hJ3 := Lib.hid (hJ.pure (show (17 : Nat) ≠ 12 by decide) (show (18 : Nat) ≠ 12 by decide))
          intro K Q hK
          simp only [fr31] at hK ⊢
          rw [e1] at hK ⊢
          clear hcl hun hJ
          go_simp
          exact hK _ _ ⟨fun _ => rfl, hJ3.out⟩
        · have e1 : y 22 = .slice (some ⟨b, off, none⟩) len cap := (hp.out 11 (by decide)).2 (by decide)
          have e2 : y 23 = .int .i64 (k) := (hp.out 12 (by decide)).2 (by decide)
          have hJ3 := Lib.hid (hJ.pure (show (17 : Nat) ≠ 13 by decide) (show (18 : Nat) ≠ 13 by decide))
          intro K Q hK
          simp only [fr31] at hK ⊢
          rw [e1, e2] at hK ⊢
          clear hcl hun hJ
          go_simp
          first | exact hK _ _ ⟨fun _ => rfl, hJ3.out⟩ | (rw [if_pos ⟨by omega, by omega⟩]; exact hK _ _ ⟨fun _ => rfl, hJ3.out⟩)
        · have e1 : y 24 = .pointer (some ⟨b, off + k * 3, none⟩) := (hp.out 13 (by decide)).2 (by decide)
          have hJ3 := Lib.hid (hJ.pure (show (17 : Nat) ≠ 14 by decide) (show (18 : Nat) ≠ 14 by decide))
          intro K Q hK
          simp only [fr31] at hK ⊢
          rw [e1] at hK ⊢
          clear hcl hun hJ
          go_simp
          exact hK _ _ ⟨fun _ => rfl, hJ3.out⟩
        · have e1 : y 25 = .pointer (some ⟨b, off + k * 3 + 2, none⟩) := (hp.out 14 (by decide)).2 (by decide)
          have hJ3 := Lib.hid (hJ.pure (show (17 : Nat) ≠ 15 by decide) (show (18 : Nat) ≠ 15 by decide))
          have hce := HC3.out _ hb3.out
          intro K Q hK
          simp only [fr31] at hK ⊢
          rw [e1] at hK ⊢
          clear hcl hun hJ
          go_simp
          exact hK _ _ ⟨fun _ => rfl, hJ3.out⟩
        · have e1 : y 16 = .string na := (hp.out 5 (by decide)).2 (by decide)
          have e2 : y 21 = .int .u32 ty := (hp.out 10 (by decide)).2 (by decide)
          have e3 : y 26 = .slice de.a de.n de.c := (hp.out 15 (by decide)).2 (by decide)
          have hJ3 := Lib.hid (hJ.pure (show (17 : Nat) ≠ 16 by decide) (show (18 : Nat) ≠ 16 by decide))
          intro K Q hK
          simp only [fr31] at hK ⊢
          rw [e1, e2, e3] at hK ⊢
          clear hcl hun hJ
          go_simp
          exact hK _ _ ⟨fun _ => rfl, hJ3.out⟩
        · have e1 : y 27 = .agg #[.string na, .int .u32 ty, .slice de.a de.n de.c] := (hp.out 16 (by decide)).2 (by decide)
          have hJ2 := hJ.first (by decide) hL (fun h => hcl 18 _ rfl h 17 (by decide))
          obtain ⟨rfl, hJ3⟩ := hJ2
          intro K Q hK
          simp only [fr31] at hK ⊢
          rw [e1] at hK ⊢
          clear hcl hun hJ
          go_simp
          rw [← HW1.out]
          exact hK _ _ ⟨fun _ => rfl, hJ3⟩
        · have e1 := (hp.out 0 (by decide)).2 (by decide)
          have e2 : y 28 = .slice (some ⟨wr.heap.size, 0, none⟩) 1 1 := (hp.out 17 (by decide)).2 (by decide)
          obtain ⟨rfl, hJ3⟩ := hJ.second (by decide) hL (hp.out 17 (by decide)).1
          exact step_append 30 (.tmp 11) (.tmp 28) rfl _ _ ((eval_frame 31 y _ (by decide)).trans e1) ((eval_frame 31 y _ (by decide)).trans e2) (HRUN.out) ⟨fun _ => rfl, hJ3⟩
        · have e1 : y 29 = v' := (hp.out 18 (by decide)).2 (by decide)
          have hJ3 := Lib.hid (hJ.pure (show (17 : Nat) ≠ 19 by decide) (show (18 : Nat) ≠ 19 by decide))
          intro K Q hK
          simp only [fr31] at hK ⊢
          rw [e1] at hK ⊢
          clear hcl hun hJ
          go_simp
          exact hK _ _ ⟨fun _ => rfl, hJ3.out⟩
    · obtain rfl : k = len := by omega
      have HO2 : Hid (wr.ownsRow w.heap.size 51 3 _ k (Nt.flat L)) := Lib.hid (by rw [HLL.out] at hown; exact hown)
      obtain ⟨ua, uc, rfl, h1, h2⟩ := Nt.own_slice hown
      have HB := Lib.hid hbel
      clear hown hbel
      go_wp2
      go_ret
      exact ⟨⟨ua, uc, rfl, h1, h2, Nt.Sl.own (fun s hs => ((HS.out.hok s hs).below (HB.out.mono hB)).more (Nat.le_trans hB HB.out.size)) HO2.out⟩, HB.out⟩
theorem bytesOf_nums (l : List UInt8) : Lib.bytesOf (l.map fun c => (c.toNat : Int)) = l := by
  unfold Lib.bytesOf
  rw [List.map_map]
  conv => rhs; rw [← List.map_id l]
  refine List.map_congr_left fun c _ => ?_
  simp
theorem str_inj {s t : ByteArray} (h : s.toList = t.toList) : s = t := by
  have e : ∀ s : ByteArray, s.toList = s.data.toList := fun s => by
    have := Lib.strOfNums_toList (bs s)
    rw [strOfNums_bs] at this
    rw [this, bs, bytesOf_nums]
  rw [e, e] at h
  exact ByteArray.ext (Array.ext' h)
theorem str_ne {a b : ByteArray} (h : ¬ a = b) : (a.toList == b.toList) = false := by
  rw [Bool.eq_false_iff, ne_eq, beq_iff_eq]
  exact fun e => h (str_inj e)
theorem Bys.drewN {w : World} {B : Nat} {a : Option Addr} {len : Nat} {zs : List Int} (h : Bys w B a len zs) (n : Nat) : Bys (w.drewN n) B a len zs := h.below (below_drewN (Below.refl B w) n)
theorem nd_eq (s t : Nt) : s.nd = t.nd ↔ (s.na = t.na ∧ s.ty = t.ty ∧ s.de.zs = t.de.zs) := by
  unfold Nt.nd
  rw [Nd.mk.injEq]
  constructor
  · rintro ⟨h1, h2, h3⟩
    exact ⟨bs_inj h1, h2, h3⟩
  · rintro ⟨h1, h2, h3⟩
    exact ⟨by rw [h1], h2, h3⟩
theorem map_nd_eq {A B : List Nt} (hl : A.length = B.length) (h : ∀ j, j < A.length → (A.getD j Nt.zero).nd = (B.getD j Nt.zero).nd) : A.map Nt.nd = B.map Nt.nd := by
  apply List.ext_getElem (by simpa using hl)
  intro i h1 h2
  have h3 : i < A.length := by simpa using h1
  have h4 : i < B.length := by omega
  have := h i h3
  rw [List.getD_eq_getElem?_getD, List.getElem?_eq_getElem h3, List.getD_eq_getElem?_getD, List.getElem?_eq_getElem h4] at this
  simpa using this
theorem map_nd_at {A B : List Nt} (h : A.map Nt.nd = B.map Nt.nd) {j : Nat} (hj : j < A.length) : (A.getD j Nt.zero).nd = (B.getD j Nt.zero).nd := by
  have hl : A.length = B.length := by have := congrArg List.length h; simpa using this
  have h4 : j < B.length := by omega
  have := congrArg (fun l : List Nd => l[j]?) h
  simp only [List.getElem?_map, List.getElem?_eq_getElem hj, List.getElem?_eq_getElem h4, Option.map_some, Option.some.injEq] at this
  rw [List.getD_eq_getElem?_getD, List.getElem?_eq_getElem hj, List.getD_eq_getElem?_getD, List.getElem?_eq_getElem h4]
  exact this
set_option maxRecDepth 100000 in
set_option maxHeartbeats 3200000 in
theorem same8_any (B : Nat) (a a' : Option Addr) (len cap len' cap' : Nat) (A C : List Nt) (w : World) (r : Bool) (hs : Nt.Sl w B a len A) (hs' : Nt.Sl w B a' len' C) (hB : B ≤ w.heap.size) (hl : (len : Int) ≤ 9223372036854775807) (hl' : (len' : Int) ≤ 9223372036854775807) (hr : r = true ↔ A.map Nt.nd = C.map Nt.nd) :
    Calls Try.prog 16 #[.slice a len cap, .slice a' len' cap'] w fun e w' => e = .returned (.bool r) ∧ Below w.heap.size w w' := by
  have HF : Hid (A.map Nt.nd ≠ C.map Nt.nd → r = false) := Lib.hid (fun h => by cases r with | false => rfl | true => exact absurd (hr.1 rfl) h)
  have HT : Hid (A.map Nt.nd = C.map Nt.nd → r = true) := Lib.hid hr.2
  have HS := Lib.hid hs
  have HS2 := Lib.hid hs'
  clear hr hs hs'
  by_cases hll : len = len'
  · subst hll
    have hbne : ((len : Int) != len) = false := by simp
    go_enter Try.func16, Try.ntmps16
    go_wp2
    go_loopw [5] (fun i wr => ∃ k : Nat, k ≤ len ∧ i = .int .i64 k ∧ (∀ j, j < k → (A.getD j Nt.zero).nd = (C.getD j Nt.zero).nd) ∧ Below w.heap.size w wr) (fun i _ => len - (intOf i).toNat)
    case atStart => exact ⟨0, Nat.zero_le _, rfl, fun j hj => absurd hj (by omega), Below.refl _ _⟩
    case round =>
      obtain ⟨k, hk, rfl, hno, hbel⟩ := hrel
      by_cases hlt : k < len
      · obtain ⟨b, off, rfl, hbB, hcell⟩ := HS.out.hc (by omega)
        obtain ⟨b', off', rfl, hbB', hcell'⟩ := HS2.out.hc (by omega)
        have hs1 := (hcell k hlt).below (hbel.mono hB) hbB
        have hs2 := (hcell' k hlt).below (hbel.mono hB) hbB'
        have ho1 := (HS.out.okAt hlt).below (hbel.mono hB)
        have ho2 := (HS2.out.okAt hlt).below (hbel.mono hB)
        have HX : Hid ((A.getD k Nt.zero).nd ≠ (C.getD k Nt.zero).nd → r = false) := Lib.hid (fun h => HF.out (fun e => h (map_nd_at e (by rw [HS.out.hl]; exact hlt))))
        have HNX : Hid ((A.getD k Nt.zero).nd = (C.getD k Nt.zero).nd → ∀ j, j < k + 1 → (A.getD j Nt.zero).nd = (C.getD j Nt.zero).nd) := Lib.hid (fun h j hj => by
          by_cases e : j = k
          · subst e; exact h
          · exact hno j (by omega))
        rw [nd_eq] at HNX
        rw [ne_eq, nd_eq] at HX
        have hli : (k : Int) < len := by omega
        have HBE := Lib.hid hbel
        generalize A.getD k Nt.zero = s at hs1 ho1 HX HNX
        generalize C.getD k Nt.zero = t at hs2 ho2 HX HNX
        obtain ⟨x0, x1, x2⟩ := hs1
        obtain ⟨u0, u1, u2⟩ := hs2
        obtain ⟨na, ty, de⟩ := s
        obtain ⟨na', ty', de'⟩ := t
        obtain ⟨-, -, hd1⟩ := ho1
        obtain ⟨-, -, hd2⟩ := ho2
        simp only at x0 x1 x2 u0 u1 u2 hd1 hd2 HX HNX
        have hv1 : ∀ n, (convert 25 9 (.slice de.a de.n de.c)).run Try.prog (wr.drewN n) = .ok (.string (strOfNums de.zs)) (wr.drewN n) := fun n => (hd1.bys.drewN n).conv de.c
        have hv2 : ∀ n, (convert 25 9 (.slice de'.a de'.n de'.c)).run Try.prog (wr.drewN n) = .ok (.string (strOfNums de'.zs)) (wr.drewN n) := fun n => (hd2.bys.drewN n).conv de'.c
        have HSN : Hid (strOfNums de.zs = strOfNums de'.zs → de.zs = de'.zs) := Lib.hid (fun h => by
          have := congrArg bs h
          rwa [bs_strOfNums hd1.bys.2.1, bs_strOfNums hd2.bys.2.1] at this)
        clear hcell hcell' hno hbel hd1 hd2
        by_cases q1 : na = na'
        · subst q1
          have q1b : (na.toList == na.toList) = true := by simp
          by_cases q2 : ty = ty'
          · subst q2
            have q2b : (ty != ty) = false := by simp
            by_cases q3 : strOfNums de.zs = strOfNums de'.zs
            · have HN3 := Lib.hid (HNX.out ⟨rfl, rfl, HSN.out q3⟩)
              rw [q3] at hv1
              generalize strOfNums de'.zs = z at hv1 hv2
              have q3b : (z.toList == z.toList) = true := by simp
              clear HX HNX HSN q3
              go_wp2
              go_quiet (fail)
              go_wp2
              go_roundw
              case rel => exact ⟨k + 1, by omega, by go_num, HN3.out, below_drewN HBE.out _⟩
              case measure => (simp [intOf] <;> omega)
            · have HR := Lib.hid (HX.out (fun h => q3 (by rw [h.2.2])))
              obtain ⟨z, hz⟩ : ∃ z, strOfNums de.zs = z := ⟨_, rfl⟩
              obtain ⟨z', hz'⟩ : ∃ z', strOfNums de'.zs = z' := ⟨_, rfl⟩
              rw [hz] at hv1 q3
              rw [hz'] at hv2 q3
              have q3b := str_ne q3
              have q3c : ¬ z.toList = z'.toList := fun e => q3 (str_inj e)
              clear HX HNX HSN hz hz'
              go_wp2
              go_quiet (fail)
              go_wp2
              go_ret
              exact ⟨ret_bool HR.out.symm, below_drewN HBE.out _⟩
          · have HR := Lib.hid (HX.out (fun h => q2 h.2.1))
            have q2b : (ty != ty') = true := by simpa using q2
            clear HX HNX HSN hv1 hv2
            go_wp2
            go_quiet (fail)
            go_wp2
            go_ret
            exact ⟨ret_bool HR.out.symm, below_drewN HBE.out _⟩
        · have HR := Lib.hid (HX.out (fun h => q1 h.1))
          have q1b := str_ne q1
          have q1c : ¬ na.toList = na'.toList := fun e => q1 (str_inj e)
          clear HX HNX HSN hv1 hv2
          go_wp2
          go_quiet (fail)
          go_wp2
          go_ret
          exact ⟨ret_bool HR.out.symm, below_drewN HBE.out _⟩
      · obtain rfl : k = len := by omega
        have HR := Lib.hid (HT.out (map_nd_eq (by rw [HS.out.hl, HS2.out.hl]) (fun j hj => hno j (by rw [← HS.out.hl]; exact hj))))
        have HBE := Lib.hid hbel
        clear hno hbel
        go_wp2
        go_ret
        exact ⟨ret_bool HR.out.symm, HBE.out⟩
  · have HR := Lib.hid (HF.out (fun h => hll (by have := congrArg List.length h; rw [List.length_map, List.length_map, HS.out.hl, HS2.out.hl] at this; exact this)))
    have hlb : ((len : Int) != len') = true := by
      rw [bne_iff_ne]; omega
    have hlc : ¬ (len : Int) = len' := by omega
    go_enter Try.func16, Try.ntmps16
    go_wp2
    go_ret
    exact ⟨ret_bool HR.out.symm, Below.refl _ _⟩
end Go.Proofs.Ytkgakdlalmmdiaa
