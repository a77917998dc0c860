/-
  What is proved here: Span of package segs and of its reference, of a list that Check takes: the first page of the first one that is loaded, the end of the last one's pages.
  Conditions: the list may be.
-/
import Derived.Test.YtgomemienmchnaaSegCheck
namespace Go.Proofs.Ytgomemienmchnaa
open Go.RowKit
set_option linter.unusedVariables false
set_option linter.unusedSimpArgs false

def lowS (L : List Sg) : Int := match L.find? (kindB 1) with
  | none => 0
  | some s => firstS s
def someS (L : List Sg) : Bool := (L.find? (kindB 1)).isSome
theorem low_step {L : List Sg} {k : Nat} (h : k < L.length) : lowS (L.take (k + 1)) = if someS (L.take k) = true then lowS (L.take k) else if (L.getD k sg0).ty = 1 then firstS (L.getD k sg0) else 0 := by
  unfold lowS someS
  rw [take_snoc h, List.find?_append]
  generalize L.getD k sg0 = s
  cases hf : (L.take k).find? (kindB 1) with
  | some s => simp
  | none =>
    by_cases h1 : s.ty = 1
    · have : kindB 1 s = true := by simp [kindB, h1]
      rw [if_pos h1]
      simp [this]
    · have : kindB 1 s = false := by simp [kindB, h1]
      rw [if_neg h1]
      simp [this]
theorem some_step {L : List Sg} {k : Nat} (h : k < L.length) : someS (L.take (k + 1)) = (someS (L.take k) || decide ((L.getD k sg0).ty = 1)) := by
  unfold someS
  rw [take_snoc h, List.find?_append]
  generalize L.getD k sg0 = s
  cases hf : (L.take k).find? (kindB 1) with
  | some s => simp
  | none =>
    by_cases h1 : s.ty = 1
    · have : kindB 1 s = true := by simp [kindB, h1]
      simp [this, h1]
    · have : kindB 1 s = false := by simp [kindB, h1]
      simp [this, h1]
theorem some_no {L : List Sg} (h : someS L = false) : lowS L = 0 := by
  unfold someS at h
  unfold lowS
  cases hf : L.find? (kindB 1) with
  | none => rfl
  | some s => rw [hf] at h; cases h
/-- What a list that may be is, segment by segment. -/
structure Fits (L : List Sg) (size : Int) : Prop where
  one : ∀ k, k < L.length → Alone0 (L.getD k sg0) size
  up : ∀ k, k < L.length → (L.getD k sg0).ty = 1 → lastEnd (L.take k) ≤ firstS (L.getD k sg0)
theorem fits {L : List Sg} {size : Int} (h : checkS L size = 0) : Fits L size :=
  ⟨fun k hk => alone0 (step1_alone (chk_all h k hk)), fun k hk h1 => by
    have h2 := chk_all h k hk
    have h3 := at1_load (L := L) (size := size) (k := k) (step1_alone h2) h1
    rw [h2] at h3
    by_cases h4 : firstS (L.getD k sg0) < lastEnd (L.take k)
    · rw [if_pos h4] at h3; omega
    · omega⟩
theorem first_behind {s : Sg} (h : s.Ok) : firstS s ≤ behindS s ∧ 0 ≤ firstS s ∧ s.va + s.me ≤ behindS s ∧ firstS s % 256 = 0 ∧ behindS s % 256 = 0 ∧ firstS s ≤ s.va := by
  have := h.va; have := h.me
  unfold firstS behindS
  omega
theorem last_step {L : List Sg} {size : Int} (hf : Fits L size) (hok : ∀ s ∈ L, s.Ok) : ∀ {k : Nat}, k ≤ L.length → 0 ≤ lastEnd (L.take k) ∧ lowS (L.take k) ≤ lastEnd (L.take k) ∧ lowS (L.take k) % 256 = 0 ∧ lastEnd (L.take k) % 256 = 0 ∧ 0 ≤ lowS (L.take k) ∧ (someS (L.take k) = false → lastEnd (L.take k) = 0)
  | 0, _ => by simp [lastEnd, lowS]
  | k + 1, hk => by
    obtain ⟨a0, a1, a2, a3, a4, a5⟩ := last_step hf hok (k := k) (by omega)
    obtain ⟨b0, b1, b2, b3, b4, b5⟩ := first_behind (hok _ (getD_mem (L := L) (k := k) (by omega)))
    rw [lastEnd_step (by omega), low_step (by omega), some_step (by omega)]
    cases hso : someS (L.take k) with
    | true =>
      simp only [if_true, Bool.true_or]
      by_cases h1 : (L.getD k sg0).ty = 1
      · have := hf.up k (by omega) h1
        rw [if_pos h1]
        exact ⟨by omega, by omega, by omega, by omega, by omega, fun h => by cases h⟩
      · rw [if_neg h1]
        exact ⟨by omega, by omega, by omega, by omega, by omega, fun h => by cases h⟩
    | false =>
      have a6 := a5 hso
      simp only [Bool.false_eq_true, if_false, Bool.false_or]
      by_cases h1 : (L.getD k sg0).ty = 1
      · rw [if_pos h1, if_pos h1]
        exact ⟨by omega, by omega, by omega, by omega, by omega, fun h => by rw [decide_eq_true h1] at h; cases h⟩
      · rw [if_neg h1, if_neg h1]
        exact ⟨by omega, by omega, by omega, by omega, by omega, fun _ => a6⟩
/-- No two that are loaded have a page in common. -/
theorem apart {L : List Sg} {size : Int} (hf : Fits L size) (hok : ∀ s ∈ L, s.Ok) {i : Nat} (hi : (L.getD i sg0).ty = 1) : ∀ {k : Nat}, i < k → k ≤ L.length → behindS (L.getD i sg0) ≤ lastEnd (L.take k)
  | 0, h, _ => by omega
  | k + 1, h, hk => by
    rw [lastEnd_step (by omega)]
    by_cases e : i = k
    · subst e; rw [if_pos hi]; exact Int.le_refl _
    · have h1 := apart hf hok hi (k := k) (by omega) (by omega)
      by_cases h2 : (L.getD k sg0).ty = 1
      · have := hf.up k (by omega) h2
        have := (first_behind (hok _ (getD_mem (L := L) (k := k) (by omega)))).1
        rw [if_pos h2]; omega
      · rw [if_neg h2]; exact h1

set_option maxRecDepth 100000 in
set_option maxHeartbeats 1600000 in
theorem span_ok (B : Nat) (a : Option Addr) (len cap : Nat) (L : List Sg) (size : Int) (w : World) (hs : Sgs w B a len L) (hB : B ≤ w.heap.size) (hl : (len : Int) ≤ 9223372036854775807) (hf : Fits L size) :
    Calls Try.prog 24 #[.slice a len cap] w fun e w' => e = .returned (.tuple #[.int .u64 (lowS L), .int .u64 (lastEnd L)]) ∧ Below w.heap.size w w' := by
  have HS := Lib.hid hs
  have HF := Lib.hid hf
  have HLS := Lib.hid (fun k => last_step hf hs.hok (k := k))
  clear hs hf
  go_enter Try.func24, Try.ntmps24
  go_wp2
  go_loopw [4, 5, 6, 8, 9, 10, 13] (fun lo hi so _ _ _ i wr => ∃ k : Nat, k ≤ len ∧ i = .int .i64 k ∧ lo = .int .u64 (lowS (L.take k)) ∧ hi = .int .u64 (lastEnd (L.take k)) ∧ so = .bool (someS (L.take k)) ∧ Below w.heap.size w wr) (fun _ _ _ _ _ _ i _ => len - (intOf i).toNat)
  case atStart => exact ⟨0, Nat.zero_le _, rfl, rfl, rfl, rfl, Below.refl _ _⟩
  case round =>
    obtain ⟨k, hk, rfl, rfl, rfl, rfl, hbel⟩ := hrel
    by_cases hlt : k < len
    · obtain ⟨b, off, rfl, hbB, hcell⟩ := HS.out.hc (by omega)
      have hsev := (hcell k hlt).below (hbel.mono hB) hbB
      have hok := HS.out.okAt hlt
      have hLl := HS.out.hl
      have h1s := low_step (L := L) (k := k) (by omega)
      have h2s := some_step (L := L) (k := k) (by omega)
      have h3s := lastEnd_step (L := L) (k := k) (by omega)
      have hup := HF.out.up k (by omega)
      have hva := (HF.out.one k (by omega)).va
      obtain ⟨l0, l1, -, -, l2, l3⟩ := HLS.out k (by omega)
      obtain ⟨b0, b1, -, -, -, -⟩ := first_behind hok
      obtain ⟨s, hsd⟩ : ∃ s, L.getD k sg0 = s := ⟨_, rfl⟩
      rw [hsd] at hsev hok h1s h2s h3s hup hva b0 b1
      have HB2 : Hid (∀ o, Below w.heap.size w (wr.alloc o)) := Lib.hid (fun o => hbel.alloc hbel.size o)
      have HPA := Lib.hid (fun h w1 => pages_ok s w1 hok h)
      generalize lowS (L.take k) = lo at h1s l1 l2 ⊢
      generalize lastEnd (L.take k) = hi at h3s hup l0 l1 l3 ⊢
      generalize someS (L.take k) = so at h1s h2s l3 ⊢
      have HVA := Lib.hid hva
      have H1 := Lib.hid h1s
      have H2 := Lib.hid h2s
      have H3 := Lib.hid h3s
      have HUP := Lib.hid hup
      have HL3 := Lib.hid l3
      clear hcell hsd hbel hok h1s h2s h3s hup hva l3
      obtain ⟨c0, c1, c2, c3, c4, c5, c6⟩ := hsev
      obtain ⟨ty, fl, ot, va, fi, me, al⟩ := s
      simp only at c0 c1 c2 c3 c4 c5 c6
      by_cases h1 : ty = 1
      · subst h1
        have HP := Lib.hid (HPA.out (HVA.out (by show (1 : Int) ≠ 0; decide)))
        have hup := HUP.out rfl
        have h1' := H1.out
        have h2' : someS (L.take (k + 1)) = true := H2.out.trans (by simp)
        have h3' := H3.out
        rw [if_pos (show (⟨1, fl, ot, va, fi, me, al⟩ : Sg).ty = 1 from rfl)] at h1' h3'
        generalize firstS ⟨1, fl, ot, va, fi, me, al⟩ = fs at *
        generalize behindS ⟨1, fl, ot, va, fi, me, al⟩ = bh at *
        have J1 := Lib.hid h1'
        have J2 := Lib.hid h2'
        have J3 := Lib.hid h3'
        clear HPA HVA HUP h1' h2' h3'
        unfold Sg.val at *
        simp only at HP
        cases so with
        | true =>
          have hlo : ¬ fs < lo := by omega
          have HMX : Hid ((if hi < bh then bh else hi) = bh) := Lib.hid (by split <;> omega)
          go_wp2_with fail
          refine (HP.out _).mono ?_
          rintro e w2 ⟨rfl, hb2⟩
          have HB3 := Lib.hid ((HB2.out _).trans (hb2.mono (HB2.out _).size))
          clear hb2
          go_wp2
          go_roundw
          case rel => exact ⟨k + 1, by omega, by go_num, by rw [J1.out]; simp, by rw [J3.out, HMX.out], by rw [J2.out], HB3.out⟩
          case measure => (simp [intOf] <;> omega)
        | false =>
          have hhi := HL3.out rfl
          subst hhi
          have HMX : Hid ((if 0 < bh then bh else 0) = bh) := Lib.hid (by split <;> omega)
          go_wp2_with fail
          refine (HP.out _).mono ?_
          rintro e w2 ⟨rfl, hb2⟩
          have HB3 := Lib.hid ((HB2.out _).trans (hb2.mono (HB2.out _).size))
          clear hb2
          go_wp2
          go_roundw
          case rel => exact ⟨k + 1, by omega, by go_num, by rw [J1.out]; simp, by rw [J3.out, HMX.out], by rw [J2.out], HB3.out⟩
          case measure => (simp [intOf] <;> omega)
      · have h1x : (ty != 1) = true := by simpa using h1
        have h1' := H1.out
        have h2' := H2.out
        have h3' := H3.out
        simp only at h1' h2' h3'
        simp only [h1, if_false, decide_false, Bool.or_false] at h1' h2' h3'
        have hlo0 : lowS (L.take (k + 1)) = lo := by
          rw [h1']
          cases so with
          | true => rfl
          | false =>
            have := HL3.out rfl
            simp only [Bool.false_eq_true, if_false]; omega
        have J1 := Lib.hid hlo0
        have J2 := Lib.hid h2'
        have J3 := Lib.hid h3'
        clear HPA HVA HUP h1' h2' h3' hlo0
        go_wp2
        go_roundw
        case rel => exact ⟨k + 1, by omega, by go_num, by rw [J1.out], by rw [J3.out], by rw [J2.out], HB2.out _⟩
        case measure => (simp [intOf] <;> omega)
    · obtain rfl : k = len := by omega
      have htk : L.take k = L := List.take_of_length_le (by have := HS.out.hl; omega)
      rw [htk]
      clear htk
      go_wp2
      go_ret2
      exact ⟨rfl, hbel⟩

set_option maxRecDepth 100000 in
set_option maxHeartbeats 1600000 in
theorem rspan_ok (B : Nat) (a : Option Addr) (len cap : Nat) (L : List Sg) (size : Int) (w : World) (hs : Sgs w B a len L) (hB : B ≤ w.heap.size) (hl : (len : Int) ≤ 9223372036854775807) (hf : Fits L size) :
    Calls Try.prog 25 #[.slice a len cap] w fun e w' => e = .returned (.tuple #[.int .u64 (lowS L), .int .u64 (lastEnd L)]) ∧ Below w.heap.size w w' := by
  have HS := Lib.hid hs
  have HF := Lib.hid hf
  have HLS := Lib.hid (fun k => last_step hf hs.hok (k := k))
  clear hs hf
  go_enter Try.func25, Try.ntmps25
  go_wp2
  go_loopw [4, 5, 6, 7] (fun lo hi so i wr => ∃ k : Nat, k ≤ len ∧ i = .int .i64 k ∧ lo = .int .u64 (lowS (L.take k)) ∧ hi = .int .u64 (lastEnd (L.take k)) ∧ so = .bool (someS (L.take k)) ∧ Below w.heap.size w wr) (fun _ _ _ i _ => len - (intOf i).toNat)
  case atStart => exact ⟨0, Nat.zero_le _, rfl, rfl, rfl, rfl, Below.refl _ _⟩
  case round =>
    obtain ⟨k, hk, rfl, rfl, rfl, rfl, hbel⟩ := hrel
    by_cases hlt : k < len
    · obtain ⟨b, off, rfl, hbB, hcell⟩ := HS.out.hc (by omega)
      have hsev := (hcell k hlt).below (hbel.mono hB) hbB
      have hok := HS.out.okAt hlt
      have hLl := HS.out.hl
      have h1s := low_step (L := L) (k := k) (by omega)
      have h2s := some_step (L := L) (k := k) (by omega)
      have h3s := lastEnd_step (L := L) (k := k) (by omega)
      have hva := (HF.out.one k (by omega)).va
      obtain ⟨l0, l1, -, -, l2, l3⟩ := HLS.out k (by omega)
      have HK7 : Hid (∀ w1, Below w.heap.size w w1 → Sev w1 b (off + k * 7) (L.getD k sg0)) := Lib.hid (fun w1 h1 => (hcell k hlt).below (h1.mono hB) hbB)
      obtain ⟨s, hsd⟩ : ∃ s, L.getD k sg0 = s := ⟨_, rfl⟩
      rw [hsd] at hsev hok h1s h2s h3s hva HK7
      have HB2 := Lib.hid hbel
      have HBE := Lib.hid (fun h w1 => behind_ok s w1 hok h)
      have HFI := Lib.hid (fun w1 => first_any s w1 hok)
      generalize lowS (L.take k) = lo at h1s l1 l2 ⊢
      generalize lastEnd (L.take k) = hi at h3s l0 l1 l3 ⊢
      generalize someS (L.take k) = so at h1s h2s l3 ⊢
      have HVA := Lib.hid hva
      have H1 := Lib.hid h1s
      have H2 := Lib.hid h2s
      have H3 := Lib.hid h3s
      have HL3 := Lib.hid l3
      clear hcell hsd hbel hok h1s h2s h3s hva l3
      obtain ⟨c0, c1, c2, c3, c4, c5, c6⟩ := hsev
      obtain ⟨ty, fl, ot, va, fi, me, al⟩ := s
      simp only at c0 c1 c2 c3 c4 c5 c6
      by_cases h1 : ty = 1
      · subst h1
        have HP := Lib.hid (HBE.out (HVA.out (by show (1 : Int) ≠ 0; decide)))
        have h1' := H1.out
        have h2' : someS (L.take (k + 1)) = true := H2.out.trans (by simp)
        have h3' := H3.out
        rw [if_pos (show (⟨1, fl, ot, va, fi, me, al⟩ : Sg).ty = 1 from rfl)] at h1' h3'
        generalize firstS ⟨1, fl, ot, va, fi, me, al⟩ = fs at *
        generalize behindS ⟨1, fl, ot, va, fi, me, al⟩ = bh at *
        have J1 := Lib.hid h1'
        have J2 := Lib.hid h2'
        have J3 := Lib.hid h3'
        clear HBE HVA h1' h2' h3'
        unfold Sg.val at *
        simp only at HP HFI
        cases so with
        | true =>
          go_wp2_with fail
          refine (HP.out _).mono ?_
          rintro e w2 ⟨rfl, hb2⟩
          have HB3 := Lib.hid (HB2.out.trans (hb2.mono HB2.out.size))
          clear hb2
          go_wp2
          go_roundw
          case rel => exact ⟨k + 1, by omega, by go_num, by rw [J1.out]; simp, by rw [J3.out], by rw [J2.out], HB3.out⟩
          case measure => (simp [intOf] <;> omega)
        | false =>
          go_wp2_with fail
          refine (HFI.out _).mono ?_
          rintro e w2 ⟨rfl, hb2⟩
          have hbb := HB2.out.trans (hb2.mono HB2.out.size)
          obtain ⟨x0, x1, x2, x3, x4, x5, x6⟩ := HK7.out _ hbb
          simp only at x0 x1 x2 x3 x4 x5 x6
          have HB3 := Lib.hid hbb
          clear hb2 hbb
          go_wp2_with fail
          refine (HP.out _).mono ?_
          rintro e w3 ⟨rfl, hb3⟩
          have HB4 := Lib.hid (HB3.out.trans (hb3.mono HB3.out.size))
          clear hb3
          go_wp2
          go_roundw
          case rel => exact ⟨k + 1, by omega, by go_num, by rw [J1.out]; simp, by rw [J3.out], by rw [J2.out], HB4.out⟩
          case measure => (simp [intOf] <;> omega)
      · have h1x : (ty != 1) = true := by simpa using h1
        have h1' := H1.out
        have h2' := H2.out
        have h3' := H3.out
        simp only at h1' h2' h3'
        simp only [h1, if_false, decide_false, Bool.or_false] at h1' h2' h3'
        have hlo0 : lowS (L.take (k + 1)) = lo := by
          rw [h1']
          cases so with
          | true => rfl
          | false =>
            have := HL3.out rfl
            simp only [Bool.false_eq_true, if_false]; omega
        have J1 := Lib.hid hlo0
        have J2 := Lib.hid h2'
        have J3 := Lib.hid h3'
        clear HBE HVA h1' h2' h3' hlo0
        go_wp2
        go_roundw
        case rel => exact ⟨k + 1, by omega, by go_num, by rw [J1.out], by rw [J3.out], by rw [J2.out], HB2.out⟩
        case measure => (simp [intOf] <;> omega)
    · obtain rfl : k = len := by omega
      have htk : L.take k = L := List.take_of_length_le (by have := HS.out.hl; omega)
      rw [htk]
      clear htk
      go_wp2
      go_ret2
      exact ⟨rfl, hbel⟩
end Go.Proofs.Ytgomemienmchnaa
