/-
  What is proved here: 'search' of package segs with each of the three closures that it is called with; the closures.
  Conditions: none but that the arguments are values of their types.
-/
import Derived.Test.YtgomemienmchnaaSegAlone
namespace Go.Proofs.Ytgomemienmchnaa
open Go.RowKit
set_option linter.unusedVariables false
set_option linter.unusedSimpArgs false

theorem find_at {p : Sg → Bool} : ∀ {L : List Sg} {k : Nat}, (∀ j, j < k → p (L.getD j sg0) = false) → k < L.length → p (L.getD k sg0) = true → L.find? p = some (L.getD k sg0)
  | [], k, _, h, _ => by simp at h
  | s :: L, 0, _, _, h => by
    have h' : p s = true := h
    rw [List.find?_cons_of_pos h']; rfl
  | s :: L, k + 1, h0, h1, h2 => by
    have h' : p s = false := h0 0 (by omega)
    rw [List.find?_cons_of_neg (by rw [h']; decide)]
    exact find_at (L := L) (k := k) (fun j hj => h0 (j + 1) (by omega)) (by simpa using h1) h2
theorem find_no {p : Sg → Bool} {L : List Sg} (h : ∀ j, j < L.length → p (L.getD j sg0) = false) : L.find? p = none := by
  rw [List.find?_eq_none]
  intro s hs
  obtain ⟨i, hi, rfl⟩ := List.getElem_of_mem hs
  have := h i hi
  rw [List.getD_eq_getElem?_getD, List.getElem?_eq_getElem hi] at this
  simpa using this
theorem any_find (p : Sg → Bool) (L : List Sg) : L.any p = (L.find? p).isSome := by
  rw [Bool.eq_iff_iff, List.any_eq_true, List.find?_isSome]
/-- What search hands back. -/
def foundV : Option Sg → Value
  | none => sg0.val
  | some s => s.val
def placeB (addr size : Int) (s : Sg) : Bool := (s.ty == 1) && contB s.va s.fi addr size

set_option maxHeartbeats 800000 in
theorem place1_any (s : Sg) (b1 b2 : Nat) (addr size : Int) (w : World) (h : s.Ok) (a0 : 0 ≤ addr) (a1 : addr ≤ 18446744073709551615) (z0 : 0 ≤ size) (z1 : size ≤ 18446744073709551615)
    (h1 : w.cell? ⟨b1, 0, none⟩ = some (.int .u64 addr)) (h2 : w.cell? ⟨b2, 0, none⟩ = some (.int .u64 size)) :
    Calls Try.prog 39 #[s.val, .pointer (some ⟨b1, 0, none⟩), .pointer (some ⟨b2, 0, none⟩)] w fun e w' => e = .returned (.bool (placeB addr size s)) ∧ Below w.heap.size w w' := by
  obtain ⟨-, -, -, ⟨d0, d1⟩, ⟨e0, e1⟩, -, -⟩ := h
  obtain ⟨ty, fl, ot, va, fi, me, al⟩ := s
  simp only at d0 d1 e0 e1
  have hbl : ∀ o, Below w.heap.size w (w.alloc o) := fun o => (Below.refl _ _).alloc (Nat.le_refl _) o
  have hb1 := block_lt h1
  have hb2 := block_lt h2
  simp only at hb1 hb2
  have H1 : ∀ o, (w.alloc o).cell? ⟨b1, 0, none⟩ = some (.int .u64 addr) := fun o => by rw [World.cell?_alloc_past _ _ _ hb1]; exact h1
  have H2 : ∀ o, (w.alloc o).cell? ⟨b2, 0, none⟩ = some (.int .u64 size) := fun o => by rw [World.cell?_alloc_past _ _ _ hb2]; exact h2
  have K := Lib.hid (fun w1 => contains4_any va fi addr size w1 d0 d1 e0 e1 a0 a1 z0 z1)
  unfold placeB Sg.val
  simp only
  by_cases ht : ty = 1
  · subst ht
    go_enter Try.func39, Try.ntmps39
    go_wp2_with (go_at_call 40; refine (K.out _).mono ?_; rintro e w' ⟨rfl, rfl⟩)
    go_ret
    exact ⟨by simp, hbl _⟩
  · have ht' : (ty == 1) = false := by simpa using ht
    go_enter Try.func39, Try.ntmps39
    go_wp2_with (go_at_call 40; refine (K.out _).mono ?_; rintro e w' ⟨rfl, rfl⟩)
    go_ret
    exact ⟨by simp [ht'], hbl _⟩

set_option maxHeartbeats 800000 in
theorem find1_any (s : Sg) (b1 : Nat) (kind : Int) (w : World) (h1 : w.cell? ⟨b1, 0, none⟩ = some (.int .u32 kind)) :
    Calls Try.prog 41 #[s.val, .pointer (some ⟨b1, 0, none⟩)] w fun e w' => e = .returned (.bool (s.ty == kind)) ∧ Below w.heap.size w w' := by
  obtain ⟨ty, fl, ot, va, fi, me, al⟩ := s
  have hbl : ∀ o, Below w.heap.size w (w.alloc o) := fun o => (Below.refl _ _).alloc (Nat.le_refl _) o
  have hb1 := block_lt h1
  simp only at hb1
  have H1 : ∀ o, (w.alloc o).cell? ⟨b1, 0, none⟩ = some (.int .u32 kind) := fun o => by rw [World.cell?_alloc_past _ _ _ hb1]; exact h1
  unfold Sg.val
  go_enter Try.func41, Try.ntmps41
  go_wp2
  go_ret
  exact ⟨by simp, hbl _⟩

set_option maxHeartbeats 1600000 in
theorem loaded1_any (s k : Sg) (b1 : Nat) (w : World) (h : s.Ok) (hk : k.Ok) (h1 : Sev w b1 0 s) :
    Calls Try.prog 50 #[k.val, .pointer (some ⟨b1, 0, none⟩)] w fun e w' => e = .returned (.bool (inB s k)) ∧ Below w.heap.size w w' := by
  obtain ⟨-, -, ⟨c0, c1⟩, ⟨d0, d1⟩, ⟨e0, e1⟩, -, -⟩ := h
  obtain ⟨-, -, ⟨i0, i1⟩, ⟨j0, j1⟩, ⟨k0, k1⟩, -, -⟩ := hk
  have hbl : ∀ o, Below w.heap.size w (w.alloc o) := fun o => (Below.refl _ _).alloc (Nat.le_refl _) o
  have hb1 := block_lt h1.c0
  simp only at hb1
  have HS : ∀ o, Sev (w.alloc o) b1 0 s := fun o => h1.below (hbl o) hb1
  have H2 := fun o => (HS o).c2
  have H3 := fun o => (HS o).c3
  have H4 := fun o => (HS o).c4
  obtain ⟨ty, fl, ot, va, fi, me, al⟩ := s
  obtain ⟨kty, kfl, kot, kva, kfi, kme, kal⟩ := k
  simp only [Nat.zero_add] at c0 c1 d0 d1 e0 e1 i0 i1 j0 j1 k0 k1 H2 H3 H4
  have K := Lib.hid (fun w1 => contains4_any kot kfi ot fi w1 i0 i1 k0 k1 c0 c1 e0 e1)
  obtain ⟨c, hc⟩ : ∃ c, contB kot kfi ot fi = c := ⟨_, rfl⟩
  clear HS h1
  unfold inB Sg.val
  simp only
  rw [hc] at K ⊢
  clear hc
  by_cases ht : kty = 1
  · subst ht
    cases c with
    | true =>
      go_enter Try.func50, Try.ntmps50
      go_wp2_with (go_at_call 40; refine (K.out _).mono ?_; rintro e w' ⟨rfl, rfl⟩)
      go_ret
      exact ⟨by simp, hbl _⟩
    | false =>
      go_enter Try.func50, Try.ntmps50
      go_wp2_with (go_at_call 40; refine (K.out _).mono ?_; rintro e w' ⟨rfl, rfl⟩)
      go_ret
      exact ⟨by simp, hbl _⟩
  · have ht' : (kty == 1) = false := by simpa using ht
    go_enter Try.func50, Try.ntmps50
    go_wp2_with (go_at_call 40; refine (K.out _).mono ?_; rintro e w' ⟨rfl, rfl⟩)
    go_ret
    exact ⟨by simp [ht'], hbl _⟩

set_option maxRecDepth 100000 in
set_option maxHeartbeats 1600000 in
theorem search39 (B : Nat) (a : Option Addr) (len cap : Nat) (L : List Sg) (p : Sg → Bool) (b1 b2 : Nat) (w : World) (hs : Sgs w B a len L) (hB : B ≤ w.heap.size) (hl : (len : Int) ≤ 9223372036854775807)
    (hp : ∀ s w1, s.Ok → Below w.heap.size w w1 → Calls Try.prog 39 #[s.val, .pointer (some ⟨b1, 0, none⟩), .pointer (some ⟨b2, 0, none⟩)] w1 fun e w' => e = .returned (.bool (p s)) ∧ Below w1.heap.size w1 w') :
    Calls Try.prog 38 #[.slice a len cap, .func (.func 39) #[] #[.pointer (some ⟨b1, 0, none⟩), .pointer (some ⟨b2, 0, none⟩)]] w fun e w' => e = .returned (.tuple #[foundV (L.find? p), .bool (L.find? p).isSome]) ∧ Below w.heap.size w w' := by
  obtain ⟨r, hr⟩ : ∃ r, L.find? p = r := ⟨_, rfl⟩
  rw [hr]
  have HR := Lib.hid hr
  have HS := Lib.hid hs
  have HP := Lib.hid hp
  clear hr hs hp
  go_enter Try.func38, Try.ntmps38
  go_wp2
  go_loopw [7, 10] (fun _ i wr => ∃ k : Nat, k ≤ len ∧ i = .int .i64 k ∧ (∀ j, j < k → p (L.getD j sg0) = false) ∧ Blk wr w.heap.size sg0.cells 25 ∧ Below w.heap.size w wr) (fun _ i _ => len - (intOf i).toNat)
  case atStart => exact ⟨0, Nat.zero_le _, rfl, fun j hj => absurd hj (by omega), Blk.new _ _ _, (Below.refl _ _).alloc (Nat.le_refl _) _⟩
  case round =>
    obtain ⟨k, hk, rfl, hno, hblk, hbel⟩ := hrel
    by_cases hlt : k < len
    · obtain ⟨b, off, rfl, hbB, hcell⟩ := HS.out.hc (by omega)
      have hsev := (hcell k hlt).below (hbel.mono hB) hbB
      have hok := HS.out.okAt hlt
      have hpk := Lib.hid (HP.out (L.getD k sg0))
      have HAT := Lib.hid (fun h => find_at (p := p) (L := L) hno (by have := HS.out.hl; omega) h)
      have HNO : Hid (p (L.getD k sg0) = false → ∀ j, j < k + 1 → p (L.getD j sg0) = false) := Lib.hid (fun h j hj => by
        by_cases e : j = k
        · subst e; exact h
        · exact hno j (by omega))
      obtain ⟨s, hsd⟩ : ∃ s, L.getD k sg0 = s := ⟨_, rfl⟩
      rw [hsd] at hsev hok hpk HAT HNO
      obtain ⟨q, hq⟩ : ∃ q, p s = q := ⟨_, rfl⟩
      rw [hq] at hpk HAT HNO
      have HOK := Lib.hid hok
      clear hcell hsd hno hok
      obtain ⟨s0, s1, s2, s3, s4, s5, s6⟩ := hsev
      obtain ⟨ty, fl, ot, va, fi, me, al⟩ := s
      simp only at s0 s1 s2 s3 s4 s5 s6
      have hbs := hbel.size
      have HB2 : Hid (∀ o, Below w.heap.size w (wr.alloc o)) := Lib.hid (fun o => hbel.alloc hbs o)
      have HK2 : Hid (∀ o, Blk (wr.alloc o) w.heap.size sg0.cells 25) := Lib.hid (fun o => hblk.alloc o)
      clear hbel hblk
      cases q with
      | true =>
        have hr2 := HAT.out rfl
        rw [HR.out] at hr2
        subst hr2
        go_wp2_with fail
        refine (hpk.out _ HOK.out (HB2.out _)).mono ?_
        rintro e w2 ⟨rfl, hb2⟩
        obtain ⟨p0, p1, p2, p3, p4, p5, p6⟩ := ((Blk.new wr _ _).later hb2).c7
        obtain ⟨q0, q1, q2, q3, q4, q5, q6⟩ := ((HK2.out _).later hb2).c7
        obtain ⟨f0, f1, f2, f3, f4, f5, f6⟩ := ((HK2.out _).later hb2).f7
        have HB3 := Lib.hid ((HB2.out _).trans (hb2.mono (HB2.out _).size))
        clear hb2
        go_wp2
        refine bodyPost_ret (v := .tuple #[.agg #[.int .u32 ty, .int .u32 fl, .int .u64 ot, .int .u64 va, .int .u64 fi, .int .u64 me, .int .u64 al], .bool true]) (by simp [results, Try.results38, go_sem, q0, q1, q2, q3, q4, q5, q6]) rfl ⟨rfl, ?_⟩
        exact ((((((HB3.out.setCell (Nat.le_refl _) _).setCell (Nat.le_refl _) _).setCell (Nat.le_refl _) _).setCell (Nat.le_refl _) _).setCell (Nat.le_refl _) _).setCell (Nat.le_refl _) _).setCell (Nat.le_refl _) _
      | false =>
        go_wp2_with fail
        refine (hpk.out _ HOK.out (HB2.out _)).mono ?_
        rintro e w2 ⟨rfl, hb2⟩
        have hk2 := (HK2.out (.cells #[.int .u32 ty, .int .u32 fl, .int .u64 ot, .int .u64 va, .int .u64 fi, .int .u64 me, .int .u64 al] 25)).later hb2
        have hbb := (HB2.out _).trans (hb2.mono (HB2.out _).size)
        clear hb2
        go_wp2
        go_roundw
        case rel => exact ⟨k + 1, by omega, by go_num, HNO.out (by trivial), hk2, hbb⟩
        case measure => simp [intOf]; omega
    · obtain rfl : k = len := by omega
      have hr2 := find_no (p := p) (L := L) (fun j hj => hno j (by have := HS.out.hl; omega))
      rw [HR.out] at hr2
      subst hr2
      obtain ⟨q0, q1, q2, q3, q4, q5, q6⟩ := hblk.c7
      obtain ⟨f0, f1, f2, f3, f4, f5, f6⟩ := hblk.f7
      go_wp2
      refine bodyPost_ret (v := .tuple #[.agg #[.int .u32 0, .int .u32 0, .int .u64 0, .int .u64 0, .int .u64 0, .int .u64 0, .int .u64 0], .bool false]) (by simp [results, Try.results38, go_sem, q0, q1, q2, q3, q4, q5, q6]) rfl ⟨rfl, ?_⟩
      exact ((((((hbel.setCell (Nat.le_refl _) _).setCell (Nat.le_refl _) _).setCell (Nat.le_refl _) _).setCell (Nat.le_refl _) _).setCell (Nat.le_refl _) _).setCell (Nat.le_refl _) _).setCell (Nat.le_refl _) _
set_option maxRecDepth 100000 in
set_option maxHeartbeats 1600000 in
theorem search41 (B : Nat) (a : Option Addr) (len cap : Nat) (L : List Sg) (p : Sg → Bool) (b1 : Nat) (w : World) (hs : Sgs w B a len L) (hB : B ≤ w.heap.size) (hl : (len : Int) ≤ 9223372036854775807)
    (hp : ∀ s w1, s.Ok → Below w.heap.size w w1 → Calls Try.prog 41 #[s.val, .pointer (some ⟨b1, 0, none⟩)] w1 fun e w' => e = .returned (.bool (p s)) ∧ Below w1.heap.size w1 w') :
    Calls Try.prog 38 #[.slice a len cap, .func (.func 41) #[] #[.pointer (some ⟨b1, 0, none⟩)]] w fun e w' => e = .returned (.tuple #[foundV (L.find? p), .bool (L.find? p).isSome]) ∧ Below w.heap.size w w' := by
  obtain ⟨r, hr⟩ : ∃ r, L.find? p = r := ⟨_, rfl⟩
  rw [hr]
  have HR := Lib.hid hr
  have HS := Lib.hid hs
  have HP := Lib.hid hp
  clear hr hs hp
  go_enter Try.func38, Try.ntmps38
  go_wp2
  go_loopw [7, 10] (fun _ i wr => ∃ k : Nat, k ≤ len ∧ i = .int .i64 k ∧ (∀ j, j < k → p (L.getD j sg0) = false) ∧ Blk wr w.heap.size sg0.cells 25 ∧ Below w.heap.size w wr) (fun _ i _ => len - (intOf i).toNat)
  case atStart => exact ⟨0, Nat.zero_le _, rfl, fun j hj => absurd hj (by omega), Blk.new _ _ _, (Below.refl _ _).alloc (Nat.le_refl _) _⟩
  case round =>
    obtain ⟨k, hk, rfl, hno, hblk, hbel⟩ := hrel
    by_cases hlt : k < len
    · obtain ⟨b, off, rfl, hbB, hcell⟩ := HS.out.hc (by omega)
      have hsev := (hcell k hlt).below (hbel.mono hB) hbB
      have hok := HS.out.okAt hlt
      have hpk := Lib.hid (HP.out (L.getD k sg0))
      have HAT := Lib.hid (fun h => find_at (p := p) (L := L) hno (by have := HS.out.hl; omega) h)
      have HNO : Hid (p (L.getD k sg0) = false → ∀ j, j < k + 1 → p (L.getD j sg0) = false) := Lib.hid (fun h j hj => by
        by_cases e : j = k
        · subst e; exact h
        · exact hno j (by omega))
      obtain ⟨s, hsd⟩ : ∃ s, L.getD k sg0 = s := ⟨_, rfl⟩
      rw [hsd] at hsev hok hpk HAT HNO
      obtain ⟨q, hq⟩ : ∃ q, p s = q := ⟨_, rfl⟩
      rw [hq] at hpk HAT HNO
      have HOK := Lib.hid hok
      clear hcell hsd hno hok
      obtain ⟨s0, s1, s2, s3, s4, s5, s6⟩ := hsev
      obtain ⟨ty, fl, ot, va, fi, me, al⟩ := s
      simp only at s0 s1 s2 s3 s4 s5 s6
      have hbs := hbel.size
      have HB2 : Hid (∀ o, Below w.heap.size w (wr.alloc o)) := Lib.hid (fun o => hbel.alloc hbs o)
      have HK2 : Hid (∀ o, Blk (wr.alloc o) w.heap.size sg0.cells 25) := Lib.hid (fun o => hblk.alloc o)
      clear hbel hblk
      cases q with
      | true =>
        have hr2 := HAT.out rfl
        rw [HR.out] at hr2
        subst hr2
        go_wp2_with fail
        refine (hpk.out _ HOK.out (HB2.out _)).mono ?_
        rintro e w2 ⟨rfl, hb2⟩
        obtain ⟨p0, p1, p2, p3, p4, p5, p6⟩ := ((Blk.new wr _ _).later hb2).c7
        obtain ⟨q0, q1, q2, q3, q4, q5, q6⟩ := ((HK2.out _).later hb2).c7
        obtain ⟨f0, f1, f2, f3, f4, f5, f6⟩ := ((HK2.out _).later hb2).f7
        have HB3 := Lib.hid ((HB2.out _).trans (hb2.mono (HB2.out _).size))
        clear hb2
        go_wp2
        refine bodyPost_ret (v := .tuple #[.agg #[.int .u32 ty, .int .u32 fl, .int .u64 ot, .int .u64 va, .int .u64 fi, .int .u64 me, .int .u64 al], .bool true]) (by simp [results, Try.results38, go_sem, q0, q1, q2, q3, q4, q5, q6]) rfl ⟨rfl, ?_⟩
        exact ((((((HB3.out.setCell (Nat.le_refl _) _).setCell (Nat.le_refl _) _).setCell (Nat.le_refl _) _).setCell (Nat.le_refl _) _).setCell (Nat.le_refl _) _).setCell (Nat.le_refl _) _).setCell (Nat.le_refl _) _
      | false =>
        go_wp2_with fail
        refine (hpk.out _ HOK.out (HB2.out _)).mono ?_
        rintro e w2 ⟨rfl, hb2⟩
        have hk2 := (HK2.out (.cells #[.int .u32 ty, .int .u32 fl, .int .u64 ot, .int .u64 va, .int .u64 fi, .int .u64 me, .int .u64 al] 25)).later hb2
        have hbb := (HB2.out _).trans (hb2.mono (HB2.out _).size)
        clear hb2
        go_wp2
        go_roundw
        case rel => exact ⟨k + 1, by omega, by go_num, HNO.out (by trivial), hk2, hbb⟩
        case measure => simp [intOf]; omega
    · obtain rfl : k = len := by omega
      have hr2 := find_no (p := p) (L := L) (fun j hj => hno j (by have := HS.out.hl; omega))
      rw [HR.out] at hr2
      subst hr2
      obtain ⟨q0, q1, q2, q3, q4, q5, q6⟩ := hblk.c7
      obtain ⟨f0, f1, f2, f3, f4, f5, f6⟩ := hblk.f7
      go_wp2
      refine bodyPost_ret (v := .tuple #[.agg #[.int .u32 0, .int .u32 0, .int .u64 0, .int .u64 0, .int .u64 0, .int .u64 0, .int .u64 0], .bool false]) (by simp [results, Try.results38, go_sem, q0, q1, q2, q3, q4, q5, q6]) rfl ⟨rfl, ?_⟩
      exact ((((((hbel.setCell (Nat.le_refl _) _).setCell (Nat.le_refl _) _).setCell (Nat.le_refl _) _).setCell (Nat.le_refl _) _).setCell (Nat.le_refl _) _).setCell (Nat.le_refl _) _).setCell (Nat.le_refl _) _
set_option maxRecDepth 100000 in
set_option maxHeartbeats 1600000 in
theorem search50 (B : Nat) (a : Option Addr) (len cap : Nat) (L : List Sg) (p : Sg → Bool) (b1 : Nat) (w : World) (hs : Sgs w B a len L) (hB : B ≤ w.heap.size) (hl : (len : Int) ≤ 9223372036854775807)
    (hp : ∀ s w1, s.Ok → Below w.heap.size w w1 → Calls Try.prog 50 #[s.val, .pointer (some ⟨b1, 0, none⟩)] w1 fun e w' => e = .returned (.bool (p s)) ∧ Below w1.heap.size w1 w') :
    Calls Try.prog 38 #[.slice a len cap, .func (.func 50) #[] #[.pointer (some ⟨b1, 0, none⟩)]] w fun e w' => e = .returned (.tuple #[foundV (L.find? p), .bool (L.find? p).isSome]) ∧ Below w.heap.size w w' := by
  obtain ⟨r, hr⟩ : ∃ r, L.find? p = r := ⟨_, rfl⟩
  rw [hr]
  have HR := Lib.hid hr
  have HS := Lib.hid hs
  have HP := Lib.hid hp
  clear hr hs hp
  go_enter Try.func38, Try.ntmps38
  go_wp2
  go_loopw [7, 10] (fun _ i wr => ∃ k : Nat, k ≤ len ∧ i = .int .i64 k ∧ (∀ j, j < k → p (L.getD j sg0) = false) ∧ Blk wr w.heap.size sg0.cells 25 ∧ Below w.heap.size w wr) (fun _ i _ => len - (intOf i).toNat)
  case atStart => exact ⟨0, Nat.zero_le _, rfl, fun j hj => absurd hj (by omega), Blk.new _ _ _, (Below.refl _ _).alloc (Nat.le_refl _) _⟩
  case round =>
    obtain ⟨k, hk, rfl, hno, hblk, hbel⟩ := hrel
    by_cases hlt : k < len
    · obtain ⟨b, off, rfl, hbB, hcell⟩ := HS.out.hc (by omega)
      have hsev := (hcell k hlt).below (hbel.mono hB) hbB
      have hok := HS.out.okAt hlt
      have hpk := Lib.hid (HP.out (L.getD k sg0))
      have HAT := Lib.hid (fun h => find_at (p := p) (L := L) hno (by have := HS.out.hl; omega) h)
      have HNO : Hid (p (L.getD k sg0) = false → ∀ j, j < k + 1 → p (L.getD j sg0) = false) := Lib.hid (fun h j hj => by
        by_cases e : j = k
        · subst e; exact h
        · exact hno j (by omega))
      obtain ⟨s, hsd⟩ : ∃ s, L.getD k sg0 = s := ⟨_, rfl⟩
      rw [hsd] at hsev hok hpk HAT HNO
      obtain ⟨q, hq⟩ : ∃ q, p s = q := ⟨_, rfl⟩
      rw [hq] at hpk HAT HNO
      have HOK := Lib.hid hok
      clear hcell hsd hno hok
      obtain ⟨s0, s1, s2, s3, s4, s5, s6⟩ := hsev
      obtain ⟨ty, fl, ot, va, fi, me, al⟩ := s
      simp only at s0 s1 s2 s3 s4 s5 s6
      have hbs := hbel.size
      have HB2 : Hid (∀ o, Below w.heap.size w (wr.alloc o)) := Lib.hid (fun o => hbel.alloc hbs o)
      have HK2 : Hid (∀ o, Blk (wr.alloc o) w.heap.size sg0.cells 25) := Lib.hid (fun o => hblk.alloc o)
      clear hbel hblk
      cases q with
      | true =>
        have hr2 := HAT.out rfl
        rw [HR.out] at hr2
        subst hr2
        go_wp2_with fail
        refine (hpk.out _ HOK.out (HB2.out _)).mono ?_
        rintro e w2 ⟨rfl, hb2⟩
        obtain ⟨p0, p1, p2, p3, p4, p5, p6⟩ := ((Blk.new wr _ _).later hb2).c7
        obtain ⟨q0, q1, q2, q3, q4, q5, q6⟩ := ((HK2.out _).later hb2).c7
        obtain ⟨f0, f1, f2, f3, f4, f5, f6⟩ := ((HK2.out _).later hb2).f7
        have HB3 := Lib.hid ((HB2.out _).trans (hb2.mono (HB2.out _).size))
        clear hb2
        go_wp2
        refine bodyPost_ret (v := .tuple #[.agg #[.int .u32 ty, .int .u32 fl, .int .u64 ot, .int .u64 va, .int .u64 fi, .int .u64 me, .int .u64 al], .bool true]) (by simp [results, Try.results38, go_sem, q0, q1, q2, q3, q4, q5, q6]) rfl ⟨rfl, ?_⟩
        exact ((((((HB3.out.setCell (Nat.le_refl _) _).setCell (Nat.le_refl _) _).setCell (Nat.le_refl _) _).setCell (Nat.le_refl _) _).setCell (Nat.le_refl _) _).setCell (Nat.le_refl _) _).setCell (Nat.le_refl _) _
      | false =>
        go_wp2_with fail
        refine (hpk.out _ HOK.out (HB2.out _)).mono ?_
        rintro e w2 ⟨rfl, hb2⟩
        have hk2 := (HK2.out (.cells #[.int .u32 ty, .int .u32 fl, .int .u64 ot, .int .u64 va, .int .u64 fi, .int .u64 me, .int .u64 al] 25)).later hb2
        have hbb := (HB2.out _).trans (hb2.mono (HB2.out _).size)
        clear hb2
        go_wp2
        go_roundw
        case rel => exact ⟨k + 1, by omega, by go_num, HNO.out (by trivial), hk2, hbb⟩
        case measure => simp [intOf]; omega
    · obtain rfl : k = len := by omega
      have hr2 := find_no (p := p) (L := L) (fun j hj => hno j (by have := HS.out.hl; omega))
      rw [HR.out] at hr2
      subst hr2
      obtain ⟨q0, q1, q2, q3, q4, q5, q6⟩ := hblk.c7
      obtain ⟨f0, f1, f2, f3, f4, f5, f6⟩ := hblk.f7
      go_wp2
      refine bodyPost_ret (v := .tuple #[.agg #[.int .u32 0, .int .u32 0, .int .u64 0, .int .u64 0, .int .u64 0, .int .u64 0, .int .u64 0], .bool false]) (by simp [results, Try.results38, go_sem, q0, q1, q2, q3, q4, q5, q6]) rfl ⟨rfl, ?_⟩
      exact ((((((hbel.setCell (Nat.le_refl _) _).setCell (Nat.le_refl _) _).setCell (Nat.le_refl _) _).setCell (Nat.le_refl _) _).setCell (Nat.le_refl _) _).setCell (Nat.le_refl _) _).setCell (Nat.le_refl _) _
end Go.Proofs.Ytgomemienmchnaa
