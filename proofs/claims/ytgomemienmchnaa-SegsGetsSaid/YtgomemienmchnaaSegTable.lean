/-
  What is proved here: Table of package segs and of its reference: the segments that lie one behind the other, in new memory, or the error that the document names.
  Conditions: slices of at most 2^47 bytes.
-/
import Derived.Test.YtgomemienmchnaaSegGet
import Derived.Test.YtgomemienmchnaaOCut
import Derived.Test.YtgomemienmchnaaORCut
namespace Go.Proofs.Ytgomemienmchnaa
open Go.RowKit
set_option linter.unusedVariables false
set_option linter.unusedSimpArgs false

theorem info_seg : (Try.prog.info? 25).map (fun i => (i.zero, i.size, i.bytes)) = some (some (.agg #[.int .u32 0, .int .u32 0, .int .u64 0, .int .u64 0, .int .u64 0, .int .u64 0, .int .u64 0]), 7, 48) := by kernel_rfl
theorem own7_below {w w' : World} {base n : Nat} {e : TypeId} {v : Value} {xs : List Value} (h : w.ownsRow base e 7 v n xs) (hb : Below w.heap.size w w') : w'.ownsRow base e 7 v n xs :=
  h.kept (row := none) ⟨hb.os, hb.tape, hb.output, hb.size, fun k hk _ => hb.block k hk⟩ (by cases v.ownBlock <;> simp)
theorem own7_base {w : World} {base base' n : Nat} {e : TypeId} {v : Value} {xs : List Value} (h : w.ownsRow base e 7 v n xs) (hb : base' ≤ base) : w.ownsRow base' e 7 v n xs := by
  obtain ⟨hl, ⟨hv, e0⟩ | ⟨g, cap, cur, hv, hg, r⟩⟩ := h
  · exact ⟨hl, .inl ⟨hv, e0⟩⟩
  · exact ⟨hl, .inr ⟨g, cap, cur, hv, Nat.le_trans hb hg, r⟩⟩
theorem own7_slice {w : World} {base n : Nat} {e : TypeId} {v : Value} {xs : List Value} (h : w.ownsRow base e 7 v n xs) : ∃ a c, v = .slice a n c ∧ n ≤ c ∧ (c : Int) ≤ 9223372036854775807 := by
  rcases h.2 with ⟨hv, e0⟩ | ⟨g, c, cur, hv, _, _, h1, h2, _⟩
  · exact ⟨none, 0, by rw [hv, e0], by omega, by omega⟩
  · exact ⟨_, _, hv, h1, by unfold maxLen at h2; omega⟩
theorem lit_cells (w : World) (L : List Value) (t : TypeId) (g : Nat) (hg : g = w.heap.size) : ∀ (j : Nat) (u : Value), L[j]? = some u → (w.alloc (.cells L.toArray t)).cell? ((⟨g, 0, none⟩ : Addr).add j) = some u := by
  intro j u hj
  subst hg
  rw [add_none, Nat.zero_add, (Blk.new w _ _).cell]
  simpa using hj
theorem rest_eq (g o k m : Nat) (ho : o = 56 * k) : Value.slice (if 56 * (m + 1) = 56 then some ⟨g, o, none⟩ else some ⟨g, o + 56, none⟩) (56 * (m + 1) - 56) (56 * (m + 1) - 56) = .slice (some ⟨g, if m = 0 then o else 56 * (k + 1), none⟩) (56 * m) (56 * m) := by
  subst ho
  have e : 56 * (m + 1) - 56 = 56 * m := by omega
  rw [e]
  by_cases h : m = 0
  · subst h; rfl
  · rw [if_neg (by omega), if_neg h, show 56 * k + 56 = 56 * (k + 1) by omega]
/-- The segment number k of a table's bytes; whether it is one. -/
def segAt (C : List Int) (k : Nat) : Sg := getS (piece C (56 * k) 56)
def goodAt (C : List Int) (k : Nat) : Prop := againS (piece C (56 * k) 56) = (segAt C k).va
instance (C : List Int) (k : Nat) : Decidable (goodAt C k) := by unfold goodAt; exact inferInstance
def tabS (C : List Int) (n : Nat) : List Sg := (List.range n).map (segAt C)
def goodT (C : List Int) (n : Nat) : Bool := decide (∀ j, j < n → goodAt C j)
theorem tabS_len (C : List Int) (n : Nat) : (tabS C n).length = n := by simp [tabS]
theorem tabS_succ (C : List Int) (k : Nat) : tabS C (k + 1) = tabS C k ++ [segAt C k] := by simp [tabS, List.range_succ]
theorem tabS_getD {C : List Int} {n k : Nat} (h : k < n) : (tabS C n).getD k sg0 = segAt C k := by
  rw [List.getD_eq_getElem?_getD, tabS, List.getElem?_map, List.getElem?_range h]; rfl
theorem tabS_ok {C : List Int} {n : Nat} (hb : ∀ x ∈ C, 0 ≤ x ∧ x ≤ 255) (hl : C.length = 56 * n) : ∀ s ∈ tabS C n, s.Ok := by
  intro s hs
  simp only [tabS, List.mem_map, List.mem_range] at hs
  obtain ⟨k, hk, rfl⟩ := hs
  exact (getS_bd (piece_mem hb) (by rw [piece_len (by omega)]; exact Nat.le_refl _)).1
theorem getV_at {C : List Int} {n k m : Nat} (h : k + (m + 1) = n) (hl : C.length = 56 * n) : getV (piece C (56 * k) (56 * (m + 1))) = if goodAt C k then .tuple #[(segAt C k).val, .int .i64 0] else .tuple #[sg0.val, .int .i64 11] := by
  have e1 : getS (piece C (56 * k) (56 * (m + 1))) = segAt C k := by
    unfold segAt getS
    simp only [piece_piece (zs := C) (p := 56 * k) (n := 56 * (m + 1)) (show 0 + 4 ≤ 56 * (m + 1) by omega), piece_piece (zs := C) (p := 56 * k) (n := 56 * (m + 1)) (show 4 + 4 ≤ 56 * (m + 1) by omega), piece_piece (zs := C) (p := 56 * k) (n := 56 * (m + 1)) (show 8 + 8 ≤ 56 * (m + 1) by omega), piece_piece (zs := C) (p := 56 * k) (n := 56 * (m + 1)) (show 16 + 8 ≤ 56 * (m + 1) by omega), piece_piece (zs := C) (p := 56 * k) (n := 56 * (m + 1)) (show 32 + 8 ≤ 56 * (m + 1) by omega), piece_piece (zs := C) (p := 56 * k) (n := 56 * (m + 1)) (show 40 + 8 ≤ 56 * (m + 1) by omega), piece_piece (zs := C) (p := 56 * k) (n := 56 * (m + 1)) (show 48 + 8 ≤ 56 * (m + 1) by omega),
      piece_piece (zs := C) (p := 56 * k) (n := 56) (show 0 + 4 ≤ 56 by omega), piece_piece (zs := C) (p := 56 * k) (n := 56) (show 4 + 4 ≤ 56 by omega), piece_piece (zs := C) (p := 56 * k) (n := 56) (show 8 + 8 ≤ 56 by omega), piece_piece (zs := C) (p := 56 * k) (n := 56) (show 16 + 8 ≤ 56 by omega), piece_piece (zs := C) (p := 56 * k) (n := 56) (show 32 + 8 ≤ 56 by omega), piece_piece (zs := C) (p := 56 * k) (n := 56) (show 40 + 8 ≤ 56 by omega), piece_piece (zs := C) (p := 56 * k) (n := 56) (show 48 + 8 ≤ 56 by omega)]
  have e2 : againS (piece C (56 * k) (56 * (m + 1))) = againS (piece C (56 * k) 56) := by
    unfold againS
    rw [piece_piece (show 24 + 8 ≤ 56 * (m + 1) by omega), piece_piece (show 24 + 8 ≤ 56 by omega)]
  unfold getV
  rw [if_neg (by rw [piece_len (by omega)]; omega), e1, e2]
  rfl
theorem getV_one {C : List Int} {k : Nat} (h : 56 * k + 56 ≤ C.length) : getV (piece C (56 * k) 56) = if goodAt C k then .tuple #[(segAt C k).val, .int .i64 0] else .tuple #[sg0.val, .int .i64 11] := by
  unfold getV
  rw [if_neg (by rw [piece_len h]; omega)]
  rfl
theorem goodT_no {C : List Int} {n k : Nat} (hk : k < n) (h : ¬ goodAt C k) : goodT C n = false := by
  unfold goodT
  rw [decide_eq_false_iff_not]
  exact fun hh => h (hh k hk)
theorem goodT_yes {C : List Int} {n : Nat} (h : ∀ j, j < n → goodAt C j) : goodT C n = true := by
  unfold goodT
  rw [decide_eq_true_eq]
  exact h
/-- What Table tells of bytes that hold n. -/
def TabPost (C : List Int) (n : Nat) (base : Nat) (r : Ending) (w' : World) : Prop :=
  ∃ v e, r = .returned (.tuple #[v, .int .i64 e]) ∧ ((goodT C n = true ∧ e = 0 ∧ w'.ownsRow base 25 7 v n (flatS (tabS C n))) ∨ (goodT C n = false ∧ e = 11 ∧ v = .slice none 0 0))

set_option maxHeartbeats 400000 in
theorem stable_arg (a : Option Addr) (len cap : Nat) (p n : Int) (w : World) (h : n < 0 ∨ 64 < n) :
    Calls Try.prog 16 #[.slice a len cap, .int .u64 p, .int .i64 n] w fun r w' => r = .returned (.tuple #[.slice none 0 0, .int .i64 1]) ∧ Below w.heap.size w w' := by
  by_cases h0 : n < 0
  · go_enter Try.func16, Try.ntmps16
    go_wp2
    go_ret2
    exact ⟨rfl, Below.refl _ _⟩
  · have h1 : 64 < n := by omega
    go_enter Try.func16, Try.ntmps16
    go_wp2
    go_ret2
    exact ⟨rfl, Below.refl _ _⟩
set_option maxHeartbeats 400000 in
theorem rtable_arg (a : Option Addr) (len cap : Nat) (p n : Int) (w : World) (h : n < 0 ∨ 64 < n) :
    Calls Try.prog 17 #[.slice a len cap, .int .u64 p, .int .i64 n] w fun r w' => r = .returned (.tuple #[.slice none 0 0, .int .i64 1]) ∧ Below w.heap.size w w' := by
  by_cases h0 : n < 0
  · go_enter Try.func17, Try.ntmps17
    go_wp2
    go_ret2
    exact ⟨rfl, Below.refl _ _⟩
  · have h1 : 64 < n := by omega
    go_enter Try.func17, Try.ntmps17
    go_wp2
    go_ret2
    exact ⟨rfl, Below.refl _ _⟩
set_option maxHeartbeats 400000 in
theorem stable_range (a : Option Addr) (len cap : Nat) (p : Int) (n : Nat) (w : World) (hn : n ≤ 64) (hl : (len : Int) ≤ 9223372036854775807) (p0 : 0 ≤ p) (p1 : p ≤ 18446744073709551615) (h : (len : Int) < p + 56 * n) :
    Calls Try.prog 16 #[.slice a len cap, .int .u64 p, .int .i64 n] w fun r w' => r = .returned (.tuple #[.slice none 0 0, .int .i64 10]) ∧ Below w.heap.size w w' := by
  have hn0 : (0 : Int) ≤ n := by omega
  have hn1 : (n : Int) ≤ 64 := by omega
  have hC := Lib.hid (fun w1 => cut_range a len cap p (56 * n) w1 hl p0 p1 (by omega) (by omega) h)
  go_enter Try.func16, Try.ntmps16
  go_wp2_with (go_at_call 30; refine (hC.out _).mono ?_; rintro e w' ⟨rfl, rfl⟩)
  go_ret2
  exact ⟨rfl, Below.refl _ _⟩
set_option maxHeartbeats 400000 in
theorem rtable_range (a : Option Addr) (len cap : Nat) (p : Int) (n : Nat) (w : World) (hn : n ≤ 64) (hl : (len : Int) ≤ 9223372036854775807) (p0 : 0 ≤ p) (p1 : p ≤ 18446744073709551615) (h : (len : Int) < p + 56 * n) :
    Calls Try.prog 17 #[.slice a len cap, .int .u64 p, .int .i64 n] w fun r w' => r = .returned (.tuple #[.slice none 0 0, .int .i64 10]) ∧ Below w.heap.size w w' := by
  have hn0 : (0 : Int) ≤ n := by omega
  have hn1 : (n : Int) ≤ 64 := by omega
  have hC := Lib.hid (fun w1 => rcut_range a len cap p (56 * n) w1 hl p0 p1 (by omega) (by omega) h)
  go_enter Try.func17, Try.ntmps17
  go_wp2_with (go_at_call 31; refine (hC.out _).mono ?_; rintro e w' ⟨rfl, rfl⟩)
  go_ret2
  exact ⟨rfl, Below.refl _ _⟩

set_option maxRecDepth 100000 in
set_option maxHeartbeats 1600000 in
theorem stable_fits (B : Nat) (a : Option Addr) (len cap : Nat) (zs : List Int) (p n : Nat) (w : World) (hb : Bys w B a len zs) (hB : B ≤ w.heap.size) (hcap : len ≤ cap) (hcm : (cap : Int) ≤ 9223372036854775807) (hl : len ≤ 140737488355328) (hn : n ≤ 64) (h : p + 56 * n ≤ len) :
    Calls Try.prog 16 #[.slice a len cap, .int .u64 p, .int .i64 n] w fun r w' => TabPost (piece zs p (56 * n)) n w.heap.size r w' ∧ Below w.heap.size w w' := by
  obtain ⟨i0, hi, hz0, hz1, hz2⟩ := info_parts info_seg
  have HI := Lib.hid hi
  have HZ0 := Lib.hid hz0
  have HZ1 := Lib.hid hz1
  have HZ2 := Lib.hid hz2
  have hn0 : (0 : Int) ≤ n := by omega
  have hn1 : (n : Int) ≤ 64 := by omega
  have hC := Lib.hid (cut_ok B a len cap zs p (56 * n) w hb hB hcap hcm hl h)
  have hCl : (piece zs p (56 * n)).length = 56 * n := piece_len (by have := hb.1; omega)
  have hCb : ∀ x ∈ piece zs p (56 * n), 0 ≤ x ∧ x ≤ 255 := piece_mem hb.2.1
  generalize piece zs p (56 * n) = C at *
  have HCL := Lib.hid hCl
  have HCB := Lib.hid hCb
  clear hb hi hz0 hz1 hz2 hCl hCb
  have hcast : ((56 * n : Nat) : Int) = 56 * (n : Int) := by omega
  rw [hcast] at hC
  go_enter Try.func16, Try.ntmps16
  go_wp2_with fail
  refine hC.out.mono ?_
  rintro r w1 ⟨rfl, hown, hb1⟩
  have HBY := Lib.hid (Bys.own HCB.out hown)
  have HB1 := Lib.hid hb1
  have hh := hb1.size
  obtain ⟨g, hg⟩ : ∃ g, w.heap.size = g := ⟨_, rfl⟩
  rw [hg] at HBY ⊢
  clear hown hb1 hC
  go_wp2_with (at_make; refine wpList_make_own _ rfl _ _ 33 rfl w1.heap.size 25 i0 _ 7 Try.underlying33 HI.out HZ0.out HZ1.out .i64 .i64 _ n rfl rfl rfl ?c1 ?c2 ?c3 ?_)
  case c1 => rw [HZ2.out]; omega
  case c2 => unfold maxLen; omega
  case c3 => exact Nat.le_refl _
  intro w2 hown2 hg2
  have hb2 : Below w1.heap.size w1 w2 := (Below.refl _ _).grown hg2 (Nat.le_refl _) (fun _ e => by cases e)
  have HO2 := Lib.hid hown2
  have HB2 := Lib.hid hb2
  clear hown2 hg2 hb2
  go_wp2
  go_loopw [8, 10, 11, 12, 34] (fun rest l _ _ i wr => ∃ k m o : Nat, k + m = n ∧ i = .int .i64 k ∧ (0 < m → o = 56 * k) ∧ rest = .slice (some ⟨g, o, none⟩) (56 * m) (56 * m) ∧ wr.ownsRow w1.heap.size 25 7 l k (flatS (tabS C k)) ∧ (∀ j, j < k → goodAt C j) ∧ Below w1.heap.size w1 wr) (fun _ _ _ _ i _ => n - (intOf i).toNat)
  case atStart => exact ⟨0, n, 0, by omega, rfl, fun _ => rfl, rfl, HO2.out, fun j hj => absurd hj (by omega), HB2.out⟩
  case round =>
    obtain ⟨k, m, o, hkm, rfl, ho, rfl, hown, hgood, hbel⟩ := hrel
    obtain ⟨la, lc, rfl, -, -⟩ := own7_slice hown
    rcases m with _ | m
    · obtain rfl : k = n := by omega
      have HGY := Lib.hid (goodT_yes hgood)
      have HOW := Lib.hid hown
      have HBE := Lib.hid hbel
      clear hown hgood hbel
      go_wp2
      go_ret2
      exact ⟨⟨_, _, rfl, .inl ⟨HGY.out, rfl, own7_base HOW.out hh⟩⟩, HB1.out.trans (HBE.out.mono hh)⟩
    · obtain rfl := ho (by omega)
      have hkn : k < n := by omega
      have hkn' : (k : Int) < n := by omega
      have HRE := Lib.hid (rest_eq g (56 * k) k m rfl)
      have hsub := ((HBY.out.below hbel).sub (p := 56 * k) (n := 56 * (m + 1)) (by omega))
      rw [Nat.zero_add] at hsub
      have hget := sget_any w1.heap.size (some ⟨g, 56 * k, none⟩) (56 * (m + 1)) (56 * (m + 1)) _ wr hsub hbel.size (Nat.le_refl _) (by omega)
      rw [getV_at hkm HCL.out] at hget
      have HTS := Lib.hid (tabS_succ C k)
      have HGN := Lib.hid (goodT_no (C := C) hkn)
      have HGS : Hid (goodAt C k → ∀ j, j < k + 1 → goodAt C j) := Lib.hid (fun h j hj => by
        by_cases e : j = k
        · subst e; exact h
        · exact hgood j (by omega))
      have HOW := Lib.hid hown
      have HBE := Lib.hid hbel
      have hbs := hbel.size
      clear hown hgood hbel hsub
      by_cases hg : goodAt C k
      · rw [if_pos hg] at hget
        have hgs := Lib.hid (HGS.out hg)
        obtain ⟨s, hs⟩ : ∃ s, segAt C k = s := ⟨_, rfl⟩
        rw [hs] at hget HTS
        obtain ⟨ty, fl, ot, va, fi, me, al⟩ := s
        unfold Sg.val at hget
        have HG := Lib.hid hget
        clear hget HGN HGS hs hg
        go_wp2_with fail
        refine HG.out.mono ?_
        rintro e w3 ⟨rfl, hb3⟩
        have HO3 := Lib.hid (own7_below HOW.out hb3)
        have HB3 := Lib.hid (HBE.out.trans (hb3.mono hbs))
        clear hb3
        go_wp2_with (at_builtin; refine wpList_append_own _ rfl _ _ 33 rfl w1.heap.size 25 i0 _ 7 48 Try.underlying33 HI.out HZ0.out HZ1.out HZ2.out rfl (by decide) _ k _ rfl ((HO3.out.alloc _).alloc _) _ 1 1 [.int .u32 ty, .int .u32 fl, .int .u64 ot, .int .u64 va, .int .u64 fi, .int .u64 me, .int .u64 al] rfl rfl ?d1 ?d2 ?d3 ?d4 ?d5 ?_)
        case d1 => exact lit_cells (w3.alloc _) [.int .u32 ty, .int .u32 fl, .int .u64 ot, .int .u64 va, .int .u64 fi, .int .u64 me, .int .u64 al] _ _ (by simp)
        case d2 => intro u hu; simp at hu; rcases hu with rfl | rfl | rfl | rfl | rfl | rfl | rfl <;> rfl
        case d3 => unfold maxLen; omega
        case d4 => omega
        case d5 => have := HB3.out.size; simp; omega
        intro v4 w4 hown4 hg4 _
        have HO4 : Hid (w4.ownsRow w1.heap.size 25 7 v4 (k + 1) (flatS (tabS C (k + 1)))) := Lib.hid (by rw [HTS.out, flatS_snoc]; exact hown4)
        have hb4 : Below w1.heap.size w1 w4 := ((HB3.out.alloc HB3.out.size _).alloc (by have := HB3.out.size; simp; omega) _).grown hg4 (by have := HB3.out.size; simp; omega) (fun q e => (HO3.out.lt q e).1)
        clear hown4 hg4
        go_wp2
        go_roundw
        case rel => exact ⟨k + 1, m, if m = 0 then 56 * k else 56 * (k + 1), by omega, by go_num, fun h => if_neg (by omega), HRE.out, HO4.out, hgs.out, hb4⟩
        case measure => (simp [intOf] <;> omega)
      · rw [if_neg hg] at hget
        have HF := Lib.hid (HGN.out hg)
        unfold sg0 Sg.val at hget
        have HG := Lib.hid hget
        clear hget HGN HGS hg
        go_wp2_with fail
        refine HG.out.mono ?_
        rintro e w3 ⟨rfl, hb3⟩
        have HB3 := Lib.hid (HBE.out.trans (hb3.mono hbs))
        clear hb3
        go_wp2
        go_ret2
        exact ⟨⟨_, _, rfl, .inr ⟨HF.out, rfl, rfl⟩⟩, HB1.out.trans ((HB3.out.alloc HB3.out.size _).mono hh)⟩

set_option maxRecDepth 100000 in
set_option maxHeartbeats 1600000 in
theorem rtable_fits (B : Nat) (a : Option Addr) (len cap : Nat) (zs : List Int) (p n : Nat) (w : World) (hb : Bys w B a len zs) (hB : B ≤ w.heap.size) (hl : len ≤ 140737488355328) (hn : n ≤ 64) (h : p + 56 * n ≤ len) :
    Calls Try.prog 17 #[.slice a len cap, .int .u64 p, .int .i64 n] w fun r w' => TabPost (piece zs p (56 * n)) n w.heap.size r w' ∧ Below w.heap.size w w' := by
  obtain ⟨i0, hi, hz0, hz1, hz2⟩ := info_parts info_seg
  have HI := Lib.hid hi
  have HZ0 := Lib.hid hz0
  have HZ1 := Lib.hid hz1
  have HZ2 := Lib.hid hz2
  have hn0 : (0 : Int) ≤ n := by omega
  have hn1 : (n : Int) ≤ 64 := by omega
  have hC := Lib.hid (rcut_ok B a len cap zs p (56 * n) w hb hB hl h)
  have hCl : (piece zs p (56 * n)).length = 56 * n := piece_len (by have := hb.1; omega)
  have hCb : ∀ x ∈ piece zs p (56 * n), 0 ≤ x ∧ x ≤ 255 := piece_mem hb.2.1
  generalize piece zs p (56 * n) = C at *
  have HCL := Lib.hid hCl
  have HCB := Lib.hid hCb
  clear hb hi hz0 hz1 hz2 hCl hCb
  have hcast : ((56 * n : Nat) : Int) = 56 * (n : Int) := by omega
  rw [hcast] at hC
  go_enter Try.func17, Try.ntmps17
  go_wp2_with fail
  refine hC.out.mono ?_
  rintro r w1 ⟨a', c', rfl, hown, hb1⟩
  have HOC := Lib.hid hown
  have HBY := Lib.hid (Bys.own HCB.out hown)
  have hcap : 56 * n ≤ c' ∧ (c' : Int) ≤ 9223372036854775807 := by
    rcases hown.2 with ⟨hv, e0⟩ | ⟨g, c, cur, hv, _, _, h1, h2, _⟩
    · injection hv with _ _ hv; omega
    · injection hv with _ _ hv; subst hv; unfold maxLen at h2; omega
  have HB1 := Lib.hid hb1
  have hh := hb1.size
  clear hown hb1 hC
  go_wp2
  go_loopw [10, 11, 12, 13] (fun l i _ _ wr => ∃ k : Nat, k ≤ n ∧ i = .int .i64 k ∧ wr.ownsRow w1.heap.size 25 7 l k (flatS (tabS C k)) ∧ (∀ j, j < k → goodAt C j) ∧ Below w1.heap.size w1 wr) (fun _ i _ _ _ => n - (intOf i).toNat)
  case atStart => exact ⟨0, Nat.zero_le _, rfl, World.ownsRow_nil _ _ _ _, fun j hj => absurd hj (by omega), Below.refl _ _⟩
  case round =>
    obtain ⟨k, hk, rfl, hown, hgood, hbel⟩ := hrel
    obtain ⟨la, lc, rfl, -, -⟩ := own7_slice hown
    by_cases hkn : k < n
    · obtain ⟨g, c, hv, -⟩ := own_some HOC.out (by omega)
      injection hv with hv1 hv2 hv3
      subst hv1; subst hv3
      have hkn' : (k : Int) < n := by omega
      have hsub := ((HBY.out.below hbel).sub (p := 56 * k) (n := 56) (by omega))
      rw [Nat.zero_add] at hsub
      have hget := fun cc h1 h2 => rget4_any w1.heap.size (some ⟨g, 56 * k, none⟩) 56 cc _ wr hsub hbel.size h1 h2
      rw [getV_one (by have := HCL.out; omega)] at hget
      have HTS := Lib.hid (tabS_succ C k)
      have HGN := Lib.hid (goodT_no (C := C) hkn)
      have HGS : Hid (goodAt C k → ∀ j, j < k + 1 → goodAt C j) := Lib.hid (fun h j hj => by
        by_cases e : j = k
        · subst e; exact h
        · exact hgood j (by omega))
      have HOW := Lib.hid hown
      have HBE := Lib.hid hbel
      have hbs := hbel.size
      clear hown hgood hbel hsub
      by_cases hg : goodAt C k
      · rw [if_pos hg] at hget
        have hgs := Lib.hid (HGS.out hg)
        obtain ⟨s, hs⟩ : ∃ s, segAt C k = s := ⟨_, rfl⟩
        rw [hs] at hget HTS
        obtain ⟨ty, fl, ot, va, fi, me, al⟩ := s
        unfold Sg.val at hget
        have HG := Lib.hid hget
        clear hget HGN HGS hs hg
        go_wp2_with fail
        refine (HG.out _ (by omega) (by omega)).mono ?_
        rintro e w3 ⟨rfl, hb3⟩
        have HO3 := Lib.hid (own7_below HOW.out hb3)
        have HB3 := Lib.hid (HBE.out.trans (hb3.mono hbs))
        clear hb3
        go_wp2_with (at_builtin; refine wpList_append_own _ rfl _ _ 33 rfl w1.heap.size 25 i0 _ 7 48 Try.underlying33 HI.out HZ0.out HZ1.out HZ2.out rfl (by decide) _ k _ rfl ((HO3.out.alloc _).alloc _) _ 1 1 [.int .u32 ty, .int .u32 fl, .int .u64 ot, .int .u64 va, .int .u64 fi, .int .u64 me, .int .u64 al] rfl rfl ?d1 ?d2 ?d3 ?d4 ?d5 ?_)
        case d1 => exact lit_cells (w3.alloc _) [.int .u32 ty, .int .u32 fl, .int .u64 ot, .int .u64 va, .int .u64 fi, .int .u64 me, .int .u64 al] _ _ (by simp)
        case d2 => intro u hu; simp at hu; rcases hu with rfl | rfl | rfl | rfl | rfl | rfl | rfl <;> rfl
        case d3 => unfold maxLen; omega
        case d4 => omega
        case d5 => have := HB3.out.size; simp; omega
        intro v4 w4 hown4 hg4 _
        have HO4 : Hid (w4.ownsRow w1.heap.size 25 7 v4 (k + 1) (flatS (tabS C (k + 1)))) := Lib.hid (by rw [HTS.out, flatS_snoc]; exact hown4)
        have hb4 : Below w1.heap.size w1 w4 := ((HB3.out.alloc HB3.out.size _).alloc (by have := HB3.out.size; simp; omega) _).grown hg4 (by have := HB3.out.size; simp; omega) (fun q e => (HO3.out.lt q e).1)
        clear hown4 hg4
        go_wp2
        go_roundw
        case rel => exact ⟨k + 1, by omega, by go_num, HO4.out, hgs.out, hb4⟩
        case measure => (simp [intOf] <;> omega)
      · rw [if_neg hg] at hget
        have HF := Lib.hid (HGN.out hg)
        unfold sg0 Sg.val at hget
        have HG := Lib.hid hget
        clear hget HGN HGS hg
        go_wp2_with fail
        refine (HG.out _ (by omega) (by omega)).mono ?_
        rintro e w3 ⟨rfl, hb3⟩
        have HB3 := Lib.hid (HBE.out.trans (hb3.mono hbs))
        clear hb3
        go_wp2
        go_ret2
        exact ⟨⟨_, _, rfl, .inr ⟨HF.out, rfl, rfl⟩⟩, HB1.out.trans ((HB3.out.alloc HB3.out.size _).mono hh)⟩
    · obtain rfl : k = n := by omega
      have HGY := Lib.hid (goodT_yes hgood)
      have HOW := Lib.hid hown
      have HBE := Lib.hid hbel
      clear hown hgood hbel
      go_wp2
      go_ret2
      exact ⟨⟨_, _, rfl, .inl ⟨HGY.out, rfl, own7_base HOW.out hh⟩⟩, HB1.out.trans (HBE.out.mono hh)⟩
end Go.Proofs.Ytgomemienmchnaa
