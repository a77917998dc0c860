/-
  What is proved here: 'checkLoaded' of package segs.
  Conditions: none but that the arguments are values of their types.
-/
import Derived.Test.YtgomemienmchnaaSegFind
namespace Go.Proofs.Ytgomemienmchnaa
open Go.RowKit
set_option linter.unusedVariables false
set_option linter.unusedSimpArgs false

theorem at2_no {L : List Sg} {k : Nat} (h : ¬ ((L.getD k sg0).ty = 2 ∨ (L.getD k sg0).ty = 7) ∨ (L.getD k sg0).fi = 0) : at2 L k = 0 := by
  unfold at2 step2
  rw [if_neg]
  rintro ⟨h1, h2⟩
  rcases h with h | h
  · exact h h1
  · exact h2 h
theorem at2_yes {L : List Sg} {k : Nat} (h : (L.getD k sg0).ty = 2 ∨ (L.getD k sg0).ty = 7) (hf : (L.getD k sg0).fi ≠ 0) : at2 L k = if (L.find? (inB (L.getD k sg0))).isSome = true then 0 else 11 := by
  unfold at2 step2
  rw [if_pos ⟨h, hf⟩, any_find]
theorem upto_succ {f : Nat → Int} {k : Nat} (h : ∀ j, j < k → f j = 0) (hk : f k = 0) : ∀ j, j < k + 1 → f j = 0 := by
  intro j hj
  by_cases e : j = k
  · subst e; exact hk
  · exact h j (by omega)

set_option maxRecDepth 100000 in
set_option maxHeartbeats 1600000 in
theorem loaded_any (B : Nat) (a : Option Addr) (len cap : Nat) (L : List Sg) (w : World) (hs : Sgs w B a len L) (hB : B ≤ w.heap.size) (hl : (len : Int) ≤ 9223372036854775807) :
    Calls Try.prog 34 #[.slice a len cap] w fun e w' => e = .returned (.int .i64 (firstErr (at2 L) 0 L.length)) ∧ Below w.heap.size w w' := by
  have hmf : ∀ (fn : Fn) (first cap : Array Value) (w : World), (Instr.makeFunc fn first cap).run Try.prog w = .ok (.func fn first cap) w := fun _ _ _ _ => rfl
  obtain ⟨r, hr⟩ : ∃ r, firstErr (at2 L) 0 L.length = r := ⟨_, rfl⟩
  rw [hr]
  have HR := Lib.hid hr
  have HS := Lib.hid hs
  clear hr hs
  go_enter Try.func34, Try.ntmps34
  go_wp2
  go_loopw [4, 5, 6, 9] (fun _ _ _ i wr => ∃ k : Nat, k ≤ len ∧ i = .int .i64 k ∧ (∀ j, j < k → at2 L j = 0) ∧ Below w.heap.size w wr) (fun _ _ _ i _ => len - (intOf i).toNat)
  case atStart => exact ⟨0, Nat.zero_le _, rfl, fun j hj => absurd hj (by omega), Below.refl _ _⟩
  case round =>
    obtain ⟨k, hk, rfl, hno, hbel⟩ := hrel
    by_cases hlt : k < len
    · obtain ⟨b, off, rfl, hbB, hcell⟩ := HS.out.hc (by omega)
      have hsev := (hcell k hlt).below (hbel.mono hB) hbB
      have hok := HS.out.okAt hlt
      have hLl := HS.out.hl
      have HY := Lib.hid (at2_yes (L := L) (k := k))
      have HN := Lib.hid (at2_no (L := L) (k := k))
      have HNO := Lib.hid (upto_succ hno)
      have HRE : Hid (at2 L k ≠ 0 → r = at2 L k) := Lib.hid (fun h => by
        rw [← HR.out]
        exact firstErr_at (fun j _ hj => hno j hj) (Nat.zero_le _) (by omega) h)
      obtain ⟨s, hsd⟩ : ∃ s, L.getD k sg0 = s := ⟨_, rfl⟩
      rw [hsd] at hsev hok HY HN
      have HOK := Lib.hid hok
      have HB2 : Hid (∀ o, Below w.heap.size w (wr.alloc o)) := Lib.hid (fun o => hbel.alloc hbel.size o)
      have hbs := hbel.size
      have HC := Lib.hid (search50 B (some ⟨b, off, none⟩) len cap L (inB s) wr.heap.size (wr.alloc (.cells s.cells 25)) (HS.out.below ((HB2.out _).mono hB)) (by simp; omega) hl (fun q w1 hq h1 =>
        loaded1_any s q wr.heap.size w1 hok hq ((Blk.new wr _ _).later h1).sev))
      clear hcell hsd hno hbel hok
      obtain ⟨c0, c1, c2, c3, c4, c5, c6⟩ := hsev
      obtain ⟨ty, fl, ot, va, fi, me, al⟩ := s
      simp only at c0 c1 c2 c3 c4 c5 c6
      by_cases hk7 : ty = 2 ∨ ty = 7
      · by_cases hfi : fi = 0
        · have hn := Lib.hid (HNO.out (HN.out (.inr hfi)))
          subst hfi
          rcases hk7 with rfl | rfl
          all_goals
            clear HY HN HNO HRE HC
            go_wp2
            go_roundw
            case rel => exact ⟨k + 1, by omega, by go_num, hn.out, HB2.out _⟩
            case measure => simp [intOf]; omega
        · have hy := HY.out hk7 hfi
          have hf0 : (fi == 0) = false := by simpa using hfi
          obtain ⟨q, hq⟩ : ∃ q, (L.find? (inB ⟨ty, fl, ot, va, fi, me, al⟩)).isSome = q := ⟨_, rfl⟩
          have hc := HC.out
          rw [hq] at hy hc
          rw [foundV_eq] at hc
          generalize (L.find? (inB ⟨ty, fl, ot, va, fi, me, al⟩)).getD sg0 = s2 at hc
          obtain ⟨ty2, fl2, ot2, va2, fi2, me2, al2⟩ := s2
          have HC2 := Lib.hid hc
          clear hc HC HY HN hq
          unfold Sg.val Sg.cells at HC2
          simp only at HC2
          cases q with
          | true =>
            have hn := Lib.hid (HNO.out (by rw [hy]; rfl))
            rcases hk7 with rfl | rfl
            all_goals
              clear HRE HNO hy
              go_wp2_with fail
              refine HC2.out.mono ?_
              rintro e w2 ⟨rfl, hb2⟩
              have hbb := (HB2.out _).trans (hb2.mono (HB2.out _).size)
              clear hb2
              go_wp2
              go_roundw
              case rel => exact ⟨k + 1, by omega, by go_num, hn.out, hbb.alloc hbb.size _⟩
              case measure => simp [intOf]; omega
          | false =>
            have hr11 : r = 11 := by
              have h11 : at2 L k = 11 := by rw [hy]; rfl
              rw [HRE.out (by rw [h11]; decide), h11]
            subst hr11
            rcases hk7 with rfl | rfl
            all_goals
              clear HRE HNO hy
              go_wp2_with fail
              refine HC2.out.mono ?_
              rintro e w2 ⟨rfl, hb2⟩
              have hbb := (HB2.out _).trans (hb2.mono (HB2.out _).size)
              clear hb2
              go_wp2
              go_ret
              exact ⟨rfl, hbb.alloc hbb.size _⟩
      · have hn := Lib.hid (HNO.out (HN.out (.inl hk7)))
        have h2 : (ty != 2) = true := by simp; omega
        have h7 : (ty != 7) = true := by simp; omega
        clear HY HN HNO HRE HC hk7
        go_wp2
        go_roundw
        case rel => exact ⟨k + 1, by omega, by go_num, hn.out, HB2.out _⟩
        case measure => simp [intOf]; omega
    · obtain rfl : k = len := by omega
      have hr0 : r = 0 := by
        rw [← HR.out]
        exact firstErr_no (fun j _ hj => hno j (by have := HS.out.hl; omega))
      subst hr0
      go_wp2
      go_ret
      exact ⟨rfl, hbel⟩
end Go.Proofs.Ytgomemienmchnaa
