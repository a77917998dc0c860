/-
  What is proved here: Protect of package vmem. · Unmap of package vmem.
  Conditions: as they say.
-/
import Derived.Test.YtahjgbmhleiocaaVmFill
namespace Go.Proofs.Ytahjgbmhleiocaa
open Go.RowKit Go.WideMaps Go.Maps
set_option linter.unusedVariables false
set_option linter.unusedSimpArgs false

/-- The pages of parts, each turned. -/
def mapL (f : Pg → Pg) : List Pg → List Pt → List Pg
  | M, [] => M
  | M, p :: r => mapL f (updP M p.a f) r
theorem mapL_snoc (f : Pg → Pg) : ∀ (M : List Pg) (L : List Pt) (p : Pt), mapL f M (L ++ [p]) = updP (mapL f M L) p.a f
  | M, [], p => rfl
  | M, q :: r, p => mapL_snoc f (updP M q.a f) r p
theorem mapL_good {f : Pg → Pg} (hf : ∀ q, (f q).a = q.a) {p : Pt} : ∀ {M : List Pg} (L : List Pt), GoodP M p → GoodP (mapL f M L) p
  | M, [], h => h
  | M, q :: r, h => mapL_good hf r (upd_good hf h)
def setProt (r : Int) (p : Pg) : Pg := { p with prot := r }
/-- What Protect makes of memory, and what it answers. -/
def protR (M : List Pg) (x n : Nat) (r : Int) : List Pg × Int := if protP r = true then (mapL (setProt r) M (rngR M x n).2, (rngR M x n).1) else (M, 1)
theorem rng_good {M : List Pg} {x n : Nat} : (∀ p ∈ (rngR M x n).2, GoodP M p ∧ 1 ≤ p.n) ∧ (rngR M x n).2.length ≤ 4294967296 := by
  unfold rngR
  by_cases hr : rangeP x n = true
  · rw [if_pos hr]
    cases hs : spanP M x n with
    | none => exact ⟨(fun p hp => by cases hp), Nat.zero_le _⟩
    | some L =>
      have hg := span_good n x L hs
      refine ⟨hg, ?_⟩
      have h1 := len_sum L (fun p hp => (hg p hp).2)
      rw [span_len n x L hs] at h1
      exact Nat.le_trans h1 (range_n hr)
  · rw [if_neg hr]; exact ⟨(fun p hp => by cases hp), Nat.zero_le _⟩
theorem pgC_prot (p : Pg) (r : Int) : (pgC p).setIfInBounds 0 (.int .i64 r) = pgC (setProt r p) := by
  unfold pgC setProt
  simp
set_option maxHeartbeats 12800000 in
set_option maxRecDepth 100000 in
theorem Protect_ok {w : World} {S : VS} {M : List Pg} {c : Nat} (h : VAt w S M c) (x n : Nat) (r : Int) (x1 : x ≤ 18446744073709551615) (n1 : n ≤ 18446744073709551615) :
    Calls Try.prog 17 #[ptrV S.g, .int .u64 x, .int .u64 n, .int .i64 r] w fun e w' => e = .returned (.int .i64 (protR M x n r).2) ∧ VAt w' S (protR M x n r).1 c ∧ TurnV S w w' := by
  have HP := Lib.hid (prot_ok w r)
  have HH := Lib.hid h
  unfold protR
  by_cases hp : protP r = true
  · rw [if_pos hp]
    have HF := Lib.hid (rng_ok h x n x1 n1)
    obtain ⟨hg, hl⟩ := rng_good (M := M) (x := x) (n := n)
    have hS := Lib.hid h.sm
    obtain ⟨R, hR⟩ : ∃ R, rngR M x n = R := ⟨_, rfl⟩
    rw [hR] at HF hg hl ⊢
    obtain ⟨E, L⟩ := R
    have hpr : 0 ≤ r ∧ r ≤ 7 := by
      unfold protP at hp
      simp only [Bool.and_eq_true, decide_eq_true_eq] at hp
      exact hp
    have HPR := Lib.hid hpr
    rw [hp] at HP
    have HG := Lib.hid hg
    have HL := Lib.hid hl
    clear hp hR hg hl h hpr
    unfold ptrV at *
    go_enter Try.func17, Try.ntmps17
    go_wp2_with fail
    refine HP.out.mono ?_
    rintro r0 w0 ⟨rfl, rfl⟩
    clear HP
    go_wp2_with fail
    refine HF.out.mono ?_
    rintro r1 w1 ⟨hb1, v, rfl, hv⟩
    have HB1 := Lib.hid hb1
    have HSP := Lib.hid (own_notown hv hS.out)
    have HA1 := Lib.hid (HH.out.below hb1)
    clear hb1 HF
    obtain ⟨va, vc, hve⟩ := own_slp hv
    have HV := Lib.hid hv
    obtain ⟨m, hm⟩ : ∃ m, L.length = m := ⟨_, rfl⟩
    have hl : m ≤ 4294967296 := by rw [← hm]; exact HL.out
    have HM := Lib.hid hm
    simp only at hve
    rw [hm] at hve
    have HVE := Lib.hid hve
    rw [hve]
    clear hv hm hve
    go_wp2
    go_loopw [12, 25] (fun _ i wr => ∃ k : Nat, k ≤ m ∧ i = .int .i64 k ∧ Hid (VAt wr S (mapL (setProt r) M (L.take k)) c) ∧ Hid (TurnV S w1 wr)) (fun _ i _ => m - (intOf i).toNat)
    case atStart => exact ⟨0, Nat.zero_le _, rfl, HA1, Lib.hid (TurnV.refl _ _)⟩
    case round =>
      obtain ⟨k, hkm, rfl, HAT, HT⟩ := hrel
      by_cases hlt : k < m
      · have hlti : (k : Int) < m := by omega
        obtain ⟨g, cap, e9, hcap, hgz, q0, q1⟩ := pts_n (k := k) HV.out (by rw [HM.out]; exact hlt)
        have hgo : ¬ S.own g := HSP.out g (by rw [e9]; rfl)
        rw [HVE.out, HM.out] at e9
        injection e9 with e91 e92 e93
        subst e91
        subst e93
        rw [HM.out] at hcap
        have hcapi : (k : Int) < vc := by omega
        have q0 : wr.cell? ⟨g, k * 2, none⟩ = _ := (World.cell?_of_block (w := w1) (HT.out.block g hgz hgo)).trans q0
        have q1 : wr.cell? ⟨g, k * 2 + 1, none⟩ = _ := (World.cell?_of_block (w := w1) (HT.out.block g hgz hgo)).trans q1
        obtain ⟨p, hp⟩ : ∃ p, L.getD k pt0 = p := ⟨_, rfl⟩
        have hpm : p ∈ L := by
          rw [← hp, List.getD_eq_getElem?_getD, List.getElem?_eq_getElem (by rw [HM.out]; exact hlt)]
          exact List.getElem_mem _
        have hsn : L.take (k + 1) = L.take k ++ [p] := by
          rw [List.take_succ_eq_append_getElem (by rw [HM.out]; exact hlt), ← hp, List.getD_eq_getElem?_getD, List.getElem?_eq_getElem (by rw [HM.out]; exact hlt)]; rfl
        rw [hp] at q0 q1
        obtain ⟨hgood, hp1⟩ := HG.out p hpm
        obtain ⟨q, hq, ho⟩ := mapL_good (f := setProt r) (fun _ => rfl) (L.take k) hgood
        obtain ⟨hqm, hqa⟩ := findP_mem hq
        have hok := HAT.out.ok q hqm
        have hBq := HAT.out.pg q hqm
        rw [hqa] at hBq
        have hclt : S.pb p.a < wr.heap.size := hBq.lt
        have hne : S.pb p.a ≠ wr.heap.size := Nat.ne_of_lt hclt
        have c0 : ∀ o, (wr.alloc o).cell? ⟨S.pb p.a, 0, none⟩ = some (.int .i64 q.prot) := fun o => (hBq.alloc o).cell 0
        have f0 : ∀ o, (wr.alloc o).frozen? ⟨S.pb p.a, 0, none⟩ = false := fun o => (hBq.alloc o).frozen 0
        have HEND : Hid (∀ X, VAt ((wr.setCell ⟨S.pb p.a, 0, none⟩ (.int .i64 r)).alloc X) S (mapL (setProt r) M (L.take (k + 1))) c ∧ TurnV S w1 ((wr.setCell ⟨S.pb p.a, 0, none⟩ (.int .i64 r)).alloc X)) := Lib.hid (fun X => by
          have hown : S.own (S.pb p.a) := by rw [← hqa]; exact HAT.out.op q hqm
          have hba := (Below.refl (wr.setCell ⟨S.pb p.a, 0, none⟩ (.int .i64 r)).heap.size (wr.setCell ⟨S.pb p.a, 0, none⟩ (.int .i64 r))).alloc (Nat.le_refl _) X
          have ht : TurnV S wr (wr.setCell ⟨S.pb p.a, 0, none⟩ (.int .i64 r)) := ⟨rfl, rfl, rfl, by simp, fun j hj hno => Below.heap_setCell _ _ _ _ (fun e => hno (by rw [e]; exact hown))⟩
          refine ⟨VAt.below ?_ hba, HT.out.trans (ht.trans (TurnV.of_below hba))⟩
          have hb2 := hBq.set 0 (.int .i64 r)
          rw [pgC_prot] at hb2
          rw [hsn, mapL_snoc]
          have hu := HAT.out.upd (w' := wr.setCell ⟨S.pb p.a, 0, none⟩ (.int .i64 r)) hqm (f := setProt r) (fun _ => rfl) ⟨hok.al, hok.lt, HPR.out, hok.fi, hok.of, hok.len, hok.bd⟩ (by rw [hqa]; exact hb2) (fun j _ hj => Below.heap_setCell _ _ _ _ (by rw [hqa] at hj; exact hj)) (by simp)
          rw [hqa] at hu
          exact hu)
        have HK := Lib.hid hlt
        clear hp hpm hsn hgood hp1 hq ho hqm hqa hok hBq
        go_wp2
        go_roundw
        case rel => exact ⟨k + 1, HK.out, by go_num, Lib.hid (HEND.out _).1, Lib.hid (HEND.out _).2⟩
        case measure => have := HK.out; simp [intOf]; omega
      · have hlti : ¬ (k : Int) < m := by omega
        obtain rfl : k = m := by omega
        have HE : Hid (L.take k = L) := Lib.hid (List.take_of_length_le (by rw [HM.out]; exact Nat.le_refl _))
        rw [HE.out] at HAT
        go_wp2
        go_ret
        exact ⟨rfl, HAT.out, (TurnV.of_below HB1.out).trans HT.out⟩
  · rw [if_neg hp]
    have hpf : protP r = false := by simpa using hp
    rw [hpf] at HP
    clear hp hpf h
    unfold ptrV at *
    go_enter Try.func17, Try.ntmps17
    go_wp2_with fail
    refine HP.out.mono ?_
    rintro r0 w0 ⟨rfl, rfl⟩
    clear HP
    go_wp2
    go_ret
    exact ⟨rfl, HH.out, TurnV.refl _ _⟩
end Go.Proofs.Ytahjgbmhleiocaa
namespace Go.Proofs.Ytahjgbmhleiocaa
open Go.RowKit Go.WideMaps Go.Maps
set_option linter.unusedVariables false
set_option linter.unusedSimpArgs false

/-- The page at an address, let go. -/
def delP : List Pg → Nat → List Pg
  | [], _ => []
  | p :: r, a => if p.a = a then r else p :: delP r a
theorem del_sub : ∀ (M : List Pg) (a : Nat), (delP M a).Sublist M
  | [], _ => List.Sublist.slnil
  | p :: r, a => by
    unfold delP
    by_cases e : p.a = a
    · rw [if_pos e]; exact List.sublist_cons_self _ _
    · rw [if_neg e]; exact (del_sub r a).cons_cons _
theorem del_len : ∀ (M : List Pg) (a : Nat), (delP M a).length + (if (findP M a).isSome = true then 1 else 0) = M.length
  | [], _ => rfl
  | p :: r, a => by
    unfold delP
    rw [findP_cons]
    by_cases e : p.a = a
    · rw [if_pos e, if_pos e]; rfl
    · rw [if_neg e, if_neg e]
      have := del_len r a
      simp only [List.length_cons]
      omega
theorem del_find : ∀ {M : List Pg} {a : Nat}, (M.map (·.a)).Nodup → ∀ x, findP (delP M a) x = if x = a then none else findP M x
  | [], a, _, x => by
    show none = _
    by_cases e : x = a
    · rw [if_pos e]
    · rw [if_neg e]; rfl
  | p :: r, a, hn, x => by
    rw [List.map_cons, List.nodup_cons] at hn
    unfold delP
    by_cases e : p.a = a
    · rw [if_pos e, findP_cons]
      by_cases e2 : x = a
      · rw [if_pos e2, e2, ← e]; exact findP_none hn.1
      · rw [if_neg e2, if_neg (fun h => e2 (by rw [← h, e]))]
    · rw [if_neg e, findP_cons, findP_cons, del_find hn.2 x]
      by_cases e2 : x = a
      · subst e2; simp [e]
      · simp [e2]
theorem MapV.drop {w : World} {m : Option Nat} {M : List Pg} {pb : Nat → Nat} {c : Nat} (h : MapV w m M pb c) (hnd : (M.map (·.a)).Nodup) {x : Nat} (hx : x ≤ 18446744073709551615) (ty : TypeId) :
    ∃ w', (Builtin.delete_ #[72, 24] ty #[.map m, .int .u64 x]).run Try.prog w = .ok (.tuple #[]) w' ∧ MapV w' m (delP M x) pb c ∧ w.grownBy w' m := by
  cases m with
  | none =>
    have : M = [] := h
    subst this
    exact ⟨w, Maps.drop_nil law_u64 Try.underlying72 (key_u64 hx) ty, rfl, ⟨rfl, rfl, rfl, Nat.le_refl _, fun _ _ _ => rfl⟩⟩
  | some b =>
    obtain ⟨D, n, hn, hz, ho, hi⟩ := h
    obtain ⟨w', hrun, ho', hg⟩ := ho.drop law_u64 Try.underlying72 (key_u64 hx) ty
    refine ⟨w', hrun, ⟨_, n, hn, ?_, ho', hi.del x (fun y => del_find hnd y)⟩, hg.grown⟩
    have h1 := size_del (k := keyU x) (ho.tidy law_u64)
    have h2 := del_len M x
    rw [(hi x).1, hz] at h1
    omega
theorem VAt.del {w w' : World} {S : VS} {M : List Pg} {c : Nat} (h : VAt w S M c) {x : Nat} (hm : MapV w' S.m (delP M x) S.pb c) (hg : w.grownBy w' S.m) : VAt w' S (delP M x) c := by
  have hsub := del_sub M x
  have hblk : ∀ {j C t}, Blk w j C t → Blk w' j C t := fun {j C t} hB => hB.turn hg (fun e => by
    have hmp := h.mp
    rw [← e] at hmp
    obtain ⟨D, n, hn, hz, ⟨es, cl, hbk, r⟩, hi⟩ := hmp
    unfold Blk at hB
    rw [hbk] at hB
    injection hB with hB
    cases hB)
  exact ⟨hblk h.sp, hm, fun p hp => hblk (h.pg p (hsub.subset hp)), fun p hp q hq e => h.inj p (hsub.subset hp) q (hsub.subset hq) e, fun p hp => h.ok p (hsub.subset hp), h.so.sublist (hsub.map _), Nat.le_trans hsub.length_le h.le, h.og, h.om, fun p hp => h.op p (hsub.subset hp), fun k hk => Nat.lt_of_lt_of_le (h.sm k hk) hg.size⟩
/-- So many pages from an address on, let go. -/
def delN (M : List Pg) (x : Nat) : Nat → List Pg
  | 0 => M
  | k + 1 => delP (delN M x k) (x + k * 256)
def unmR (M : List Pg) (x n : Nat) : List Pg × Int := (delN M x (rngR M x n).2.length, (rngR M x n).1)
theorem rng_x {M : List Pg} {x n : Nat} (h : 0 < (rngR M x n).2.length) : x ≤ 4294967296 := by
  unfold rngR at h
  by_cases hr : rangeP x n = true
  · unfold rangeP at hr
    simp only [Bool.and_eq_true, decide_eq_true_eq] at hr
    omega
  · rw [if_neg hr] at h; cases h
set_option maxHeartbeats 12800000 in
set_option maxRecDepth 100000 in
theorem Unmap_ok {w : World} {S : VS} {M : List Pg} {c : Nat} (h : VAt w S M c) (x n : Nat) (x1 : x ≤ 18446744073709551615) (n1 : n ≤ 18446744073709551615) :
    Calls Try.prog 16 #[ptrV S.g, .int .u64 x, .int .u64 n] w fun e w' => e = .returned (.int .i64 (unmR M x n).2) ∧ VAt w' S (unmR M x n).1 c ∧ TurnV S w w' := by
  have HH := Lib.hid h
  unfold unmR
  have HF := Lib.hid (rng_ok h x n x1 n1)
  obtain ⟨hg, hl⟩ := rng_good (M := M) (x := x) (n := n)
  have hxl := rng_x (M := M) (x := x) (n := n)
  obtain ⟨R, hR⟩ : ∃ R, rngR M x n = R := ⟨_, rfl⟩
  rw [hR] at HF hl hxl ⊢
  obtain ⟨E, L⟩ := R
  have HL := Lib.hid hl
  have HX := Lib.hid hxl
  clear hR hg hl hxl h
  unfold ptrV at *
  go_enter Try.func16, Try.ntmps16
  go_wp2_with fail
  refine HF.out.mono ?_
  rintro r1 w1 ⟨hb1, v, rfl, hv⟩
  have HB1 := Lib.hid hb1
  have HA1 := Lib.hid (HH.out.below hb1)
  clear hb1 HF
  obtain ⟨va, vc, hve⟩ := own_slp hv
  obtain ⟨m, hm⟩ : ∃ m, L.length = m := ⟨_, rfl⟩
  simp only at hve HL HX
  rw [hm] at hve HL HX
  have HM := Lib.hid hm
  have hl : m ≤ 4294967296 := HL.out
  rw [hve]
  clear hv hm hve HL
  go_wp2
  go_loopw [9, 19] (fun _ i wr => ∃ k : Nat, k ≤ m ∧ i = .int .i64 k ∧ Hid (VAt wr S (delN M x k) c) ∧ Hid (TurnV S w1 wr)) (fun _ i _ => m - (intOf i).toNat)
  case atStart => exact ⟨0, Nat.zero_le _, rfl, HA1, Lib.hid (TurnV.refl _ _)⟩
  case round =>
    obtain ⟨k, hkm, rfl, HAT, HT⟩ := hrel
    by_cases hlt : k < m
    · have hlti : (k : Int) < m := by omega
      have hx4 := HX.out (by omega)
      obtain ⟨w2, hrun, hmv, hgr⟩ := HAT.out.mp.drop HAT.out.nd (x := x + k * 256) (by omega) 0
      rw [show ((x + k * 256 : Nat) : Int) = (x : Int) + (k : Int) * 256 by omega] at hrun
      have HEND : Hid (VAt w2 S (delN M x (k + 1)) c ∧ TurnV S w1 w2) := Lib.hid ⟨HAT.out.del hmv hgr, HT.out.trans ⟨hgr.os, hgr.tape, hgr.output, hgr.size, fun j hj hno => hgr.block j hj (fun e => hno (HAT.out.om j e.symm))⟩⟩
      have c0 : wr.cell? ⟨S.g, 0, none⟩ = some (.map S.m) := HAT.out.sp.cell 0
      have HK := Lib.hid hlt
      clear hmv hgr
      go_wp2
      go_roundw
      case rel => exact ⟨k + 1, HK.out, by go_num, Lib.hid HEND.out.1, Lib.hid HEND.out.2⟩
      case measure => have := HK.out; simp [intOf]; omega
    · have hlti : ¬ (k : Int) < m := by omega
      obtain rfl : k = m := by omega
      go_wp2
      go_ret
      refine ⟨rfl, ?_, (TurnV.of_below HB1.out).trans HT.out⟩
      show VAt _ S (delN M x L.length) c
      rw [HM.out]; exact HAT.out
end Go.Proofs.Ytahjgbmhleiocaa
