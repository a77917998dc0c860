/-
  What is proved here: load, Load, Fetch, Peek of package vmem. · Load, Fetch of package vmem. · Peek of package vmem.
  Conditions: as they say.
-/
import Derived.Test.YtkhfmgifpppcmaaDoorVmAcc
namespace Go.Proofs.YtkhfmgifpppcmaaDoor
open Go.RowKit Go.WideMaps Go.Maps
set_option linter.unusedVariables false
set_option linter.unusedSimpArgs false

theorem bytesL_ok {w : World} {S : VS} {M : List Pg} {c : Nat} (h : VAt w S M c) : ∀ L : List Pt, (∀ p ∈ L, GoodP M p) → (bytesL M L).length = (L.map (fun x => x.n)).sum ∧ ∀ n ∈ bytesL M L, 0 ≤ n ∧ n ≤ 255
  | [], _ => ⟨rfl, fun n h => by cases h⟩
  | p :: r, hg => by
    obtain ⟨h1, h2⟩ := bytesL_ok h r (fun q hq => hg q (List.mem_cons_of_mem _ hq))
    have hb := part_bys h (hg p (List.mem_cons_self ..))
    have e : bytesL M (p :: r) = bytesP M p ++ bytesL M r := rfl
    rw [e]
    refine ⟨?_, fun n hn => ?_⟩
    · rw [List.length_append, hb.1, h1]; rfl
    · rcases List.mem_append.1 hn with hn | hn
      · exact hb.2.1 n hn
      · exact h2 n hn
theorem acc_zero {M : List Pg} {x : Nat} {n r : Int} (h : (accR M x n r).1 = 0) : isW n ∧ spanP M x n.toNat = some (accR M x n r).2 := by
  unfold accR at *
  by_cases hw : isW n
  · rw [if_pos hw] at h ⊢
    refine ⟨hw, ?_⟩
    cases hs : spanP M x n.toNat with
    | none => rw [hs] at h; cases h
    | some L =>
      rw [hs] at h
      simp only at h ⊢
      by_cases hd : L.any (denyP M r) = true
      · rw [if_pos hd] at h; cases h
      · rw [if_neg hd]
  · rw [if_neg hw] at h; cases h
theorem acc_else {M : List Pg} {x : Nat} {n r : Int} (h : (accR M x n r).1 ≠ 0) : (accR M x n r).1 = 1 ∨ (accR M x n r).1 = 40 ∨ (accR M x n r).1 = 41 := by
  unfold accR at *
  by_cases hw : isW n
  · rw [if_pos hw] at h ⊢
    cases hs : spanP M x n.toNat with
    | none => right; left; rfl
    | some L =>
      rw [hs] at h
      simp only at h ⊢
      by_cases hd : L.any (denyP M r) = true
      · rw [if_pos hd]; right; right; rfl
      · rw [if_neg hd] at h; exact absurd rfl h
  · rw [if_neg hw]; left; rfl
/-- What load answers. -/
def loadR (M : List Pg) (x : Nat) (n r : Int) : Int × Int := if (accR M x n r).1 = 0 then (num (bytesL M (accR M x n r).2), 0) else (0, (accR M x n r).1)
theorem piece_self (zs : List Int) : piece zs 0 zs.length = zs := by unfold piece; rw [List.drop_zero, List.take_length]
set_option maxHeartbeats 6400000 in
set_option maxRecDepth 100000 in
theorem load_ok {w : World} {S : VS} {M : List Pg} {c : Nat} (h : VAt w S M c) (x : Nat) (n r : Int) (x1 : x ≤ 18446744073709551615) :
    Calls Tryd.prog 29 #[ptrV S.g, .int .u64 x, .int .i64 n, .int .i64 r] w fun e w' => e = .returned (.tuple #[.int .u64 (loadR M x n r).1, .int .i64 (loadR M x n r).2]) ∧ Below w.heap.size w w' := by
  have HA := Lib.hid (access_ok h x n r x1)
  unfold loadR
  by_cases h0 : (accR M x n r).1 = 0
  · rw [if_pos h0]
    obtain ⟨hw, hs⟩ := acc_zero h0
    obtain ⟨R, hR⟩ : ∃ R, accR M x n r = R := ⟨_, rfl⟩
    rw [hR] at HA h0 hs ⊢
    obtain ⟨e, L⟩ := R
    simp only at h0 hs ⊢
    subst h0
    have hg := fun p hp => (span_good (M := M) n.toNat x L hs p hp)
    have hsum := span_len (M := M) n.toNat x L hs
    obtain ⟨hbl, hbd⟩ := bytesL_ok h L (fun p hp => (hg p hp).1)
    rw [hsum] at hbl
    have hl8 : L.length ≤ 268435456 := by
      have := len_sum L (fun p hp => (hg p hp).2)
      rw [hsum] at this
      unfold isW at hw
      omega
    have HH := Lib.hid h
    have HG := Lib.hid (fun p hp => (hg p hp).1)
    obtain ⟨N, hN⟩ : ∃ N : Nat, n.toNat = N := ⟨_, rfl⟩
    rw [hN] at hbl
    obtain rfl : n = (N : Int) := by unfold isW at hw; omega
    have hw2 : N = 1 ∨ N = 2 ∨ N = 4 ∨ N = 8 := by unfold isW at hw; omega
    obtain ⟨zs, hzs⟩ : ∃ zs, bytesL M L = zs := ⟨_, rfl⟩
    have HZ := Lib.hid hzs
    have HW := Lib.hid hw2
    have HBL := Lib.hid hbl
    have HBD := Lib.hid hbd
    have HL8 := Lib.hid hl8
    rw [hzs] at HBL HBD ⊢
    clear hw hw2 hs hR hg hsum hbl hbd hN h hl8 hzs
    unfold ptrV
    go_enter Tryd.func29, Tryd.ntmps29
    go_wp2_with fail
    refine HA.out.mono ?_
    rintro r1 w1 ⟨hb1, v, rfl, hv⟩
    have HB1 := Lib.hid hb1
    have HV := Lib.hid hv
    clear hb1 hv HA
    go_wp2_with fail
    refine (join_ok (HH.out.below HB1.out) HV.out HG.out HL8.out).mono ?_
    rintro r2 w2 ⟨v2, rfl, hv2, hb2⟩
    rw [HZ.out] at hv2
    rw [HBL.out] at hv2
    obtain ⟨va, vc, rfl⟩ := own_slice hv2
    have HB2 := Lib.hid hb2
    have HV2 := Lib.hid hv2
    clear hb2 hv2
    go_wp2_with fail
    refine (get_ok w2.heap.size va N vc zs 0 N w2 (Bys.own HBD.out HV2.out) HW.out (by have := HW.out; omega) (by omega)).mono ?_
    rintro r3 w3 ⟨rfl, rfl⟩
    go_wp2
    go_ret2
    refine ⟨?_, HB1.out.trans (HB2.out.mono HB1.out.size)⟩
    rw [← HBL.out, piece_self]; rfl
  · rw [if_neg h0]
    have hE := acc_else h0
    obtain ⟨E, hEE⟩ : ∃ E, (accR M x n r).1 = E := ⟨_, rfl⟩
    obtain ⟨R, hR⟩ : ∃ R, accR M x n r = R := ⟨_, rfl⟩
    rw [hR] at HA h0 hE hEE ⊢
    rw [hEE] at hE ⊢
    clear hR h
    have HQ := Lib.hid hEE
    clear hEE h0
    unfold ptrV
    go_enter Tryd.func29, Tryd.ntmps29
    go_wp2_with fail
    refine HA.out.mono ?_
    rintro r1 w1 ⟨hb1, v, rfl, hv⟩
    obtain ⟨va, vc, rfl⟩ := own_slp hv
    rw [HQ.out]
    have HB1 := Lib.hid hb1
    clear hb1 hv HA
    rcases hE with rfl | rfl | rfl
    all_goals go_wp2
    all_goals go_ret2
    all_goals exact ⟨rfl, HB1.out⟩
end Go.Proofs.YtkhfmgifpppcmaaDoor
namespace Go.Proofs.YtkhfmgifpppcmaaDoor
open Go.RowKit Go.WideMaps Go.Maps
set_option linter.unusedVariables false
set_option linter.unusedSimpArgs false

def fetchR (M : List Pg) (x : Nat) : Int × Int := if x % 8 = 0 then loadR M x 8 1 else (0, 1)
set_option maxHeartbeats 3200000 in
theorem Load_ok {w : World} {S : VS} {M : List Pg} {c : Nat} (h : VAt w S M c) (x : Nat) (n : Int) (x1 : x ≤ 18446744073709551615) :
    Calls Tryd.prog 31 #[ptrV S.g, .int .u64 x, .int .i64 n] w fun e w' => e = .returned (.tuple #[.int .u64 (loadR M x n 4).1, .int .i64 (loadR M x n 4).2]) ∧ Below w.heap.size w w' := by
  have HA := Lib.hid (load_ok h x n 4 x1)
  obtain ⟨R, hR⟩ : ∃ R, loadR M x n 4 = R := ⟨_, rfl⟩
  rw [hR] at HA ⊢
  clear hR h
  unfold ptrV
  go_enter Tryd.func31, Tryd.ntmps31
  go_wp2_with fail
  refine HA.out.mono ?_
  rintro r1 w1 ⟨rfl, hb1⟩
  have HB1 := Lib.hid hb1
  clear hb1 HA
  go_wp2
  go_ret2
  exact ⟨rfl, HB1.out⟩
set_option maxHeartbeats 3200000 in
theorem Fetch_ok {w : World} {S : VS} {M : List Pg} {c : Nat} (h : VAt w S M c) (x : Nat) (x1 : x ≤ 18446744073709551615) :
    Calls Tryd.prog 17 #[ptrV S.g, .int .u64 x] w fun e w' => e = .returned (.tuple #[.int .u64 (fetchR M x).1, .int .i64 (fetchR M x).2]) ∧ Below w.heap.size w w' := by
  have HA := Lib.hid (load_ok h x 8 1 x1)
  unfold fetchR
  by_cases h8 : x % 8 = 0
  · rw [if_pos h8]
    obtain ⟨R, hR⟩ : ∃ R, loadR M x 8 1 = R := ⟨_, rfl⟩
    rw [hR] at HA ⊢
    have hm : (x : Int) % 8 = 0 := by omega
    clear hR h h8
    unfold ptrV
    go_enter Tryd.func17, Tryd.ntmps17
    go_wp2_with fail
    refine HA.out.mono ?_
    rintro r1 w1 ⟨rfl, hb1⟩
    have HB1 := Lib.hid hb1
    clear hb1 HA
    go_wp2
    go_ret2
    exact ⟨rfl, HB1.out⟩
  · rw [if_neg h8]
    have hm : ¬ (x : Int) % 8 = 0 := by omega
    clear h h8 HA
    unfold ptrV
    go_enter Tryd.func17, Tryd.ntmps17
    go_wp2
    go_ret2
    exact ⟨rfl, Below.refl _ _⟩
end Go.Proofs.YtkhfmgifpppcmaaDoor
namespace Go.Proofs.YtkhfmgifpppcmaaDoor
open Go.RowKit Go.WideMaps Go.Maps
set_option linter.unusedVariables false
set_option linter.unusedSimpArgs false

/-- What Peek answers. -/
def peekR (M : List Pg) (x n : Nat) : List Int × Int := match spanP M x n with
  | none => ([], 40)
  | some L => (bytesL M L, 0)
end Go.Proofs.YtkhfmgifpppcmaaDoor
