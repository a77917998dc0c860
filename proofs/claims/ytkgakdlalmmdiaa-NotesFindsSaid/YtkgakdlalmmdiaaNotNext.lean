/-
  What is proved here: next of package notes: the note of the bytes that are left, or the error that the document names.
  Conditions: at most 65536 bytes.
-/
import Derived.Test.YtkgakdlalmmdiaaNotTake
import Derived.Test.YtkgakdlalmmdiaaNotForth
import Derived.Test.YtkgakdlalmmdiaaFOne
namespace Go.Proofs.Ytkgakdlalmmdiaa
open Go.RowKit
set_option linter.unusedVariables false
set_option linter.unusedSimpArgs false

/-- What the next bytes tell: the error, the note, how many bytes it has. -/
def nextN (zs : List Int) : Int × Nd × Nat :=
  if zs.length < 12 then (10, ⟨[], 0, []⟩, 0)
  else if numAt zs 0 = 0 then (11, ⟨[], 0, []⟩, 0)
  else if zs.length < 12 + upN (numAt zs 0) then (10, ⟨[], 0, []⟩, 0)
  else if nameOk zs 12 (numAt zs 0) = false then (11, ⟨[], 0, []⟩, 0)
  else if zs.length < 12 + upN (numAt zs 0) + upN (numAt zs 4) then (10, ⟨[], 0, []⟩, 0)
  else if padOk zs (12 + upN (numAt zs 0)) (numAt zs 4) = false then (11, ⟨[], 0, []⟩, 0)
  else (0, ⟨piece zs 12 (numAt zs 0 - 1), (numAt zs 8 : Nat), piece zs (12 + upN (numAt zs 0)) (numAt zs 4)⟩, 12 + upN (numAt zs 0) + upN (numAt zs 4))
theorem piece_drop (zs : List Int) (p q n : Nat) : piece (zs.drop p) q n = piece zs (p + q) n := by
  unfold piece; rw [List.drop_drop]
theorem numAt_drop (zs : List Int) (p q : Nat) : numAt (zs.drop p) q = numAt zs (p + q) := by
  unfold numAt; rw [piece_drop]
theorem getD_drop (zs : List Int) (p i : Nat) : (zs.drop p).getD i 0 = zs.getD (p + i) 0 := by
  rw [List.getD_eq_getElem?_getD, List.getD_eq_getElem?_getD, List.getElem?_drop]
theorem nameOk_drop (zs : List Int) (p q n : Nat) : nameOk (zs.drop p) q n = nameOk zs (p + q) n := by
  unfold nameOk; congr 1; funext i; rw [getD_drop, Nat.add_assoc]
theorem padOk_drop (zs : List Int) (p q n : Nat) : padOk (zs.drop p) q n = padOk zs (p + q) n := by
  unfold padOk; congr 1; funext i; rw [getD_drop, Nat.add_assoc]
/-- One step of the loop is what the next bytes tell. -/
theorem loop_next (zs : List Int) (f p : Nat) (out : List Nd) (h : p < zs.length) :
    loopN zs (f + 1) p out = if (nextN (zs.drop p)).1 = 0 then loopN zs f (p + (nextN (zs.drop p)).2.2) (out ++ [(nextN (zs.drop p)).2.1]) else ((nextN (zs.drop p)).1, []) := by
  have hl : (zs.drop p).length = zs.length - p := List.length_drop
  unfold nextN
  rw [hl]
  simp only [numAt_drop, nameOk_drop, padOk_drop, piece_drop, Nat.add_zero]
  conv => lhs; unfold loopN
  rw [if_neg (by omega)]
  by_cases c1 : zs.length < p + 12
  · rw [if_pos c1, if_pos (show zs.length - p < 12 by omega)]; rfl
  rw [if_neg c1, if_neg (show ¬ zs.length - p < 12 by omega)]
  by_cases c2 : numAt zs p = 0
  · rw [if_pos c2, if_pos c2]; rfl
  rw [if_neg c2, if_neg c2]
  by_cases c3 : zs.length < p + 12 + upN (numAt zs p)
  · rw [if_pos c3, if_pos (show zs.length - p < 12 + upN (numAt zs p) by omega)]; rfl
  rw [if_neg c3, if_neg (show ¬ zs.length - p < 12 + upN (numAt zs p) by omega)]
  by_cases c4 : nameOk zs (p + 12) (numAt zs p) = false
  · rw [if_pos c4, if_pos c4]; rfl
  rw [if_neg c4, if_neg c4]
  by_cases c5 : zs.length < p + 12 + upN (numAt zs p) + upN (numAt zs (p + 4))
  · rw [if_pos c5, if_pos (show zs.length - p < 12 + upN (numAt zs p) + upN (numAt zs (p + 4)) by omega)]; rfl
  rw [if_neg c5, if_neg (show ¬ zs.length - p < 12 + upN (numAt zs p) + upN (numAt zs (p + 4)) by omega)]
  rw [show p + (12 + upN (numAt zs p)) = p + 12 + upN (numAt zs p) by omega]
  by_cases c6 : padOk zs (p + 12 + upN (numAt zs p)) (numAt zs (p + 4)) = false
  · rw [if_pos c6, if_pos c6]; rfl
  rw [if_neg c6, if_neg c6]
  rw [if_pos rfl, show p + (12 + upN (numAt zs p) + upN (numAt zs (p + 4))) = p + 12 + upN (numAt zs p) + upN (numAt zs (p + 4)) by omega]
/-- A name is right where its padding is and its first byte 0 is the last byte. -/
theorem nameOk_first {zs : List Int} {n k : Nat} (hl : 12 + upN n ≤ zs.length) (h0 : 0 < n) (hp : ∀ j, n ≤ j → j < upN n → (zs.drop 12).getD j 0 = 0) (hk : FirstZ ((zs.drop 12).take n) k) : (nameOk zs 12 n = true ↔ k = n - 1) := by
  have hu := (upN_le n).1
  have hln : ((zs.drop 12).take n).length = n := by rw [List.length_take, List.length_drop]; omega
  obtain ⟨k1, k2, k3⟩ := hk
  rw [hln] at k1
  rw [getD_take k1, getD_drop] at k2
  constructor
  · intro h
    have h1 := h
    unfold nameOk at h1
    rw [List.all_eq_true] at h1
    have h2 := h1 k (List.mem_range.2 (by omega))
    have h3 : ((zs.getD (12 + k) 0 = 0) = (n ≤ k + 1)) := by simpa using h2
    rw [k2] at h3
    have : n ≤ k + 1 := by rw [← h3]
    omega
  · intro h
    subst h
    refine nameOk_yes fun j hj => ?_
    by_cases e1 : n ≤ j
    · have := hp j e1 hj
      rw [getD_drop] at this
      rw [this]; simp; omega
    · by_cases e2 : j = n - 1
      · rw [e2, k2]; simp; omega
      · have := k3 j (by omega)
        rw [getD_take (by omega), getD_drop] at this
        simp only [eq_iff_iff]
        exact ⟨fun h => absurd h this, fun h => by omega⟩
theorem nameOk_noz {zs : List Int} {n : Nat} (hl : 12 + upN n ≤ zs.length) (h0 : 0 < n) (hk : NoZ ((zs.drop 12).take n)) : nameOk zs 12 n = false := by
  have hu := (upN_le n).1
  have hln : ((zs.drop 12).take n).length = n := by rw [List.length_take, List.length_drop]; omega
  have := hk (n - 1) (by omega)
  rw [getD_take (by omega), getD_drop] at this
  refine nameOk_no (j := n - 1) (by omega) (fun h => ?_)
  have h2 : n ≤ n - 1 + 1 := by omega
  rw [← h] at h2
  exact this h2
theorem nameOk_pad {zs : List Int} {n j : Nat} (h1 : n ≤ j) (h2 : j < upN n) (h3 : (zs.drop 12).getD j 0 ≠ 0) : nameOk zs 12 n = false := by
  rw [getD_drop] at h3
  refine nameOk_no h2 (fun h => h3 ?_)
  have : n ≤ j + 1 := by omega
  rw [← h] at this
  exact this
/-! ### next -/
theorem grow_setat (w : World) (g i : Nat) (u : Value) : w.grownBy (w.setCell ⟨g, i, none⟩ u) (some g) :=
  ⟨rfl, rfl, rfl, by simp, fun k hk hr => Below.heap_setCell _ _ _ _ (fun e => hr (by rw [e]))⟩
theorem Tk.grown {w w' : World} {B gb g : Nat} {zs : List Int} (h : Tk w B gb zs) (hg : w.grownBy w' (some g)) (hB : B ≤ gb) (hl : gb < g) : Tk w' B gb zs := by
  obtain ⟨b, off, c, h1, h2, h3, h4, h5⟩ := h
  have hlt := h2.lt
  exact ⟨b, off, c, h1, h2.grown hg (fun e => absurd hl (by injection e with e; omega)), h3.below ((Below.refl _ _).grown hg (by omega) (fun k e => by injection e with e; omega)), h4, h5⟩
def NextPost (Z : Int × Nd × Nat) (zs : List Int) (B gb : Nat) (w : World) (r : Ending) (w' : World) : Prop :=
  ((Z.1 ≠ 0 ∧ r = .returned (.tuple #[.agg #[.string ⟨#[]⟩, .int .u32 0, .slice none 0 0], .int .i64 Z.1])) ∨
   (Z.1 = 0 ∧ ∃ nm g, bs nm = Z.2.1.na ∧ nm.size ≤ maxLen ∧ (0 ≤ Z.2.1.ty ∧ Z.2.1.ty ≤ 4294967295) ∧ r = .returned (.tuple #[.agg #[.string nm, .int .u32 Z.2.1.ty, .slice (some ⟨g, 0, none⟩) Z.2.1.de.length Z.2.1.de.length], .int .i64 0]) ∧ R8 w' g Z.2.1.de ∧ Tk w' B gb (zs.drop Z.2.2))) ∧ w.grownBy w' (some gb)
theorem piece_take {zs : List Int} {u q n : Nat} (h : q + n ≤ u) : piece (zs.take u) q n = piece zs q n := by
  unfold piece; rw [List.drop_take, List.take_take, Nat.min_eq_left (by omega)]
theorem R8.read {w : World} {g : Nat} {zs : List Int} (h : R8 w g (zs.take 12)) (hb : ∀ n ∈ zs, 0 ≤ n ∧ n ≤ 255) (hl : 12 ≤ zs.length) (q : Nat) (hq : q + 4 ≤ 12) :
    Calls Try.prog 35 #[.slice (some ⟨g, 0, none⟩) 12 12, .int .u64 q] w fun e w' => e = .returned (.int .u64 (numAt zs q : Nat)) ∧ w = w' := by
  have hby := h.bys (fun m hm => hb m (List.mem_of_mem_take hm))
  have htl : (zs.take 12).length = 12 := by rw [List.length_take]; omega
  rw [htl] at hby
  have := nread_ok _ _ 12 12 _ q w hby (by decide) hq
  rw [piece_take (by omega)] at this
  rw [(numAt_num hb (p := q) (by omega)).1]
  exact this
theorem grow_setnew {w x : World} {r : Option Nat} (h : w.grownBy x r) (a : Addr) (ha : w.heap.size ≤ a.block) (u : Value) : w.grownBy (x.setCell a u) r :=
  ⟨h.os, h.tape, h.output, by simpa using h.size, fun k hk hr => (Below.heap_setCell _ _ _ _ (fun e => absurd hk (by omega))).trans (h.block k hk hr)⟩
theorem three_set {x : World} {g : Nat} {v0 v1 v2 : Value} {t : TypeId} (h : Blk x g #[v0, v1, v2] t) (u0 u1 u2 : Value) :
    (x.setCell ⟨g, 0, none⟩ u0).cell? ⟨g, 0, none⟩ = some u0 ∧ ((x.setCell ⟨g, 0, none⟩ u0).setCell ⟨g, 1, none⟩ u1).cell? ⟨g, 1, none⟩ = some u1 ∧ (((x.setCell ⟨g, 0, none⟩ u0).setCell ⟨g, 1, none⟩ u1).setCell ⟨g, 2, none⟩ u2).cell? ⟨g, 2, none⟩ = some u2 :=
  ⟨(h.set 0 u0).cell 0, ((h.set 0 u0).set 1 u1).cell 1, (((h.set 0 u0).set 1 u1).set 2 u2).cell 2⟩
set_option maxRecDepth 100000 in
set_option maxHeartbeats 3200000 in
theorem nnext_any (B gb : Nat) (zs : List Int) (w : World) (h : Tk w B gb zs) (hB : B ≤ gb) (hl : zs.length ≤ 65536) :
    Calls Try.prog 25 #[tkV gb] w (NextPost (nextN zs) zs B gb w) := by
  have hbd := h.choose_spec.choose_spec.choose_spec.2.2.1.2.1
  have HBD := Lib.hid hbd
  have hgl : gb < w.heap.size := h.choose_spec.choose_spec.choose_spec.2.1.lt
  obtain ⟨X, hX⟩ : ∃ X, X = w.alloc (.cells #[.string ⟨#[]⟩, .int .u32 0, .slice none 0 0] 42) := ⟨_, rfl⟩
  have HXE := Lib.hid hX
  have HTK : Hid (Tk X B gb zs) := Lib.hid (by
    obtain ⟨b, off, c, h1, h2, h3, h4, h5⟩ := h
    exact ⟨b, off, c, h1, hX ▸ h2.alloc _, hX ▸ h3.below ((Below.refl _ _).alloc (by omega) _), h4, h5⟩)
  have HKX : Hid (Blk X w.heap.size #[.string ⟨#[]⟩, .int .u32 0, .slice none 0 0] 42) := Lib.hid (hX ▸ Blk.new w _ _)
  have HGX : Hid (w.grownBy X (some gb)) := Lib.hid (hX ▸ World.grownBy_alloc w _ _)
  have hne : w.heap.size ≠ gb := by omega
  have HEND : Hid (∀ x, w.grownBy x (some gb) → ∀ u0 u1 u2, w.grownBy (((x.setCell ⟨w.heap.size, 0, none⟩ u0).setCell ⟨w.heap.size, 1, none⟩ u1).setCell ⟨w.heap.size, 2, none⟩ u2) (some gb)) := Lib.hid (fun x hx u0 u1 u2 => grow_setnew (grow_setnew (grow_setnew hx _ (Nat.le_refl _) _) _ (Nat.le_refl _) _) _ (Nat.le_refl _) _)
  obtain ⟨Z, hZ⟩ : ∃ Z, nextN zs = Z := ⟨_, rfl⟩
  have HZ : Hid (nextN zs = Z) := Lib.hid hZ
  rw [hZ]
  unfold nextN at hZ
  clear h hbd hX
  by_cases c1 : zs.length < 12
  · rw [if_pos c1] at hZ
    subst hZ
    have HT := Lib.hid (ntake_range B gb zs 12 X HTK.out hl (by decide) c1)
    unfold tkV
    go_enter Try.func25, Try.ntmps25
    go_wp2_with fail
    rw [← HXE.out]
    refine HT.out.mono ?_
    rintro r w1 ⟨rfl, rfl⟩
    obtain ⟨q0, q1, q2⟩ := Nt.cs HKX.out
    obtain ⟨f0, f1, f2⟩ := Nt.fs HKX.out
    go_wp2
    obtain ⟨e0, e1, e2⟩ := three_set HKX.out (.string ⟨#[]⟩) (.int .u32 0) (.slice none 0 0)
    exact bodyPost_ret (v := .tuple #[.agg #[.string ⟨#[]⟩, .int .u32 0, .slice none 0 0], .int .i64 10]) (by simp [results, Try.results25, go_sem, e0, e1, e2]) rfl ⟨.inl ⟨by decide, rfl⟩, HEND.out _ HGX.out _ _ _⟩
  rw [if_neg c1] at hZ
  have HT := Lib.hid (ntake_ok B gb zs 12 X HTK.out hB hl (by omega))
  have hgX : gb < X.heap.size := Nat.lt_of_lt_of_le hgl HGX.out.size
  unfold tkV
  go_enter Try.func25, Try.ntmps25
  go_wp2_with fail
  rw [← HXE.out]
  refine HT.out.mono ?_
  rintro r w1 ⟨rfl, h8, htk, hgr⟩
  have h8l := h8.lt
  obtain ⟨g1, hg1⟩ : ∃ g1, X.heap.size = g1 := ⟨_, rfl⟩
  rw [hg1] at h8 hgX h8l ⊢
  have hne1 : g1 ≠ gb := by omega
  have HK1 := Lib.hid (HKX.out.grown hgr (fun e => hne (by injection e)))
  have HG1 := Lib.hid (grow_trans HGX.out hgr)
  have H81 := Lib.hid h8
  have HTK1 := Lib.hid htk
  have HR0 := Lib.hid (h8.read HBD.out (by omega) 0 (by decide))
  obtain ⟨-, hn2⟩ := numAt_num HBD.out (p := 0) (by omega)
  obtain ⟨-, hd2⟩ := numAt_num HBD.out (p := 4) (by omega)
  obtain ⟨-, ht2⟩ := numAt_num HBD.out (p := 8) (by omega)
  have HR4 : Hid (∀ wx, R8 wx g1 (zs.take 12) → Calls Try.prog 35 #[.slice (some ⟨g1, 0, none⟩) 12 12, .int .u64 4] wx fun e w' => e = .returned (.int .u64 (numAt zs 4 : Nat)) ∧ wx = w') := Lib.hid (fun wx hx => hx.read HBD.out (by omega) 4 (by decide))
  have HR8 : Hid (∀ wx, R8 wx g1 (zs.take 12) → Calls Try.prog 35 #[.slice (some ⟨g1, 0, none⟩) 12 12, .int .u64 8] wx fun e w' => e = .returned (.int .u64 (numAt zs 8 : Nat)) ∧ wx = w') := Lib.hid (fun wx hx => hx.read HBD.out (by omega) 8 (by decide))
  obtain ⟨n, hn⟩ : ∃ n, numAt zs 0 = n := ⟨_, rfl⟩
  obtain ⟨d, hd⟩ : ∃ d, numAt zs 4 = d := ⟨_, rfl⟩
  obtain ⟨t, ht⟩ : ∃ t, numAt zs 8 = t := ⟨_, rfl⟩
  rw [hn] at HR0 hn2 hZ
  rw [hd] at HR4 hd2 hZ
  rw [ht] at HR8 ht2 hZ
  have hni : (n : Int) ≤ 4294967295 := by omega
  have hdi : (d : Int) ≤ 4294967295 := by omega
  have hti : (t : Int) ≤ 4294967295 := by omega
  have hnl : (zs.drop 12).length = zs.length - 12 := List.length_drop
  have HNBD : Hid (∀ m ∈ zs.drop 12, 0 ≤ m ∧ m ≤ 255) := Lib.hid (fun m hm => HBD.out m (List.mem_of_mem_drop hm))
  clear h8 htk hgr hn hd ht HT HTK HKX HGX
  go_wp2_with fail
  refine HR0.out.mono ?_
  rintro r w2 ⟨rfl, rfl⟩
  clear HR0
  by_cases c2 : n = 0
  · rw [if_pos c2] at hZ
    subst hZ
    subst c2
    obtain ⟨q0, q1, q2⟩ := Nt.cs HK1.out
    obtain ⟨f0, f1, f2⟩ := Nt.fs HK1.out
    go_wp2
    obtain ⟨e0, e1, e2⟩ := three_set HK1.out (.string ⟨#[]⟩) (.int .u32 0) (.slice none 0 0)
    exact bodyPost_ret (v := .tuple #[.agg #[.string ⟨#[]⟩, .int .u32 0, .slice none 0 0], .int .i64 11]) (by simp [results, Try.results25, go_sem, e0, e1, e2]) rfl ⟨.inl ⟨by decide, rfl⟩, HEND.out _ HG1.out _ _ _⟩
  rw [if_neg c2] at hZ
  have hnz : ((n : Int) == 0) = false := by rw [beq_eq_false_iff_ne]; omega
  by_cases c3 : zs.length < 12 + upN n
  · rw [if_pos c3] at hZ
    subst hZ
    have HP := ntp_range B gb (zs.drop 12) n w1 HTK1.out (by omega) (by omega) (by omega)
    unfold tkV at HP
    have HP := Lib.hid HP
    go_wp2_with fail
    refine HP.out.mono ?_
    rintro r w2 ⟨rfl, rfl⟩
    obtain ⟨q0, q1, q2⟩ := Nt.cs HK1.out
    obtain ⟨f0, f1, f2⟩ := Nt.fs HK1.out
    go_wp2
    obtain ⟨e0, e1, e2⟩ := three_set HK1.out (.string ⟨#[]⟩) (.int .u32 0) (.slice none 0 0)
    exact bodyPost_ret (v := .tuple #[.agg #[.string ⟨#[]⟩, .int .u32 0, .slice none 0 0], .int .i64 10]) (by simp [results, Try.results25, go_sem, e0, e1, e2]) rfl ⟨.inl ⟨by decide, rfl⟩, HEND.out _ HG1.out _ _ _⟩
  rw [if_neg c3] at hZ
  have HW := ntp_whole B gb (zs.drop 12) n w1 HTK1.out hB (by omega) (by omega)
  unfold tkV at HW
  have HW := Lib.hid HW
  go_wp2_with fail
  refine HW.out.mono ?_
  clear HW
  rintro r w2 ⟨⟨⟨j, j1, j2, j3⟩, rfl⟩ | ⟨hpad, rfl, h82, htk2⟩, hgr2⟩
  · rw [if_pos (nameOk_pad j1 j2 j3)] at hZ
    subst hZ
    have HK2 := Lib.hid (HK1.out.grown hgr2 (fun e => hne (by injection e)))
    have HG2 := Lib.hid (grow_trans HG1.out hgr2)
    clear hgr2
    obtain ⟨q0, q1, q2⟩ := Nt.cs HK2.out
    obtain ⟨f0, f1, f2⟩ := Nt.fs HK2.out
    go_wp2
    obtain ⟨e0, e1, e2⟩ := three_set HK2.out (.string ⟨#[]⟩) (.int .u32 0) (.slice none 0 0)
    exact bodyPost_ret (v := .tuple #[.agg #[.string ⟨#[]⟩, .int .u32 0, .slice none 0 0], .int .i64 11]) (by simp [results, Try.results25, go_sem, e0, e1, e2]) rfl ⟨.inl ⟨by decide, rfl⟩, HEND.out _ HG2.out _ _ _⟩
  have HK2 := Lib.hid (HK1.out.grown hgr2 (fun e => hne (by injection e)))
  have HG2 := Lib.hid (grow_trans HG1.out hgr2)
  have H812 := Lib.hid (H81.out.grown hgr2 (fun e => hne1 (by injection e)))
  have hne2 : w1.heap.size ≠ gb := by omega
  obtain ⟨g2, hg2⟩ : ∃ g2, w1.heap.size = g2 := ⟨_, rfl⟩
  rw [hg2] at h82 hne2 ⊢
  have hu1 := upN_le n
  have hntl : ((zs.drop 12).take n).length = n := by rw [List.length_take]; omega
  have h83 := h82.pre n
  rw [List.take_take, Nat.min_eq_left hu1.1] at h83
  have hby := h83.bys (fun m hm => HNBD.out m (List.mem_of_mem_take hm))
  have hnb : ∀ m ∈ (zs.drop 12).take n, 0 ≤ m ∧ m ≤ 255 := fun m hm => HNBD.out m (List.mem_of_mem_take hm)
  rw [hntl] at hby
  have H83 := Lib.hid h83
  have HTK2 := Lib.hid htk2
  have HBY := Lib.hid hby
  have HPAD := Lib.hid hpad
  have HNB := Lib.hid hnb
  clear h82 h83 htk2 hgr2 hby hnb hpad HK1 HG1 H81 HTK1 hg1 hg2 h8l hgX
  rcases firstZ_or ((zs.drop 12).take n) with hno | ⟨k, hk⟩
  · rw [if_pos (nameOk_noz (by omega) (by omega) hno)] at hZ
    subst hZ
    have HI := Lib.hid (bidx_any _ _ n n _ (-1) w2 HBY.out (by omega) (idx_none HNB.out hno))
    have hm1 : ((-1 : Int) != (n : Int) - 1) = true := by rw [bne_iff_ne]; omega
    clear hno
    go_wp2_with fail
    refine HI.out.mono ?_
    rintro r w3 ⟨rfl, rfl⟩
    obtain ⟨q0, q1, q2⟩ := Nt.cs HK2.out
    obtain ⟨f0, f1, f2⟩ := Nt.fs HK2.out
    go_wp2
    obtain ⟨e0, e1, e2⟩ := three_set HK2.out (.string ⟨#[]⟩) (.int .u32 0) (.slice none 0 0)
    exact bodyPost_ret (v := .tuple #[.agg #[.string ⟨#[]⟩, .int .u32 0, .slice none 0 0], .int .i64 11]) (by simp [results, Try.results25, go_sem, e0, e1, e2]) rfl ⟨.inl ⟨by decide, rfl⟩, HEND.out _ HG2.out _ _ _⟩
  have hkl := hk.1
  rw [hntl] at hkl
  have HF := Lib.hid (nameOk_first (zs := zs) (by omega) (by omega) HPAD.out hk)
  have HI := Lib.hid (bidx_any _ _ n n _ (k : Int) w2 HBY.out (by omega) (idx_some HNB.out hk))
  clear hk
  by_cases ck : k = n - 1
  case neg =>
    rw [if_pos (by cases hq : nameOk zs 12 n with | false => rfl | true => exact absurd (HF.out.1 hq) ck)] at hZ
    subst hZ
    have hm1 : ((k : Int) != (n : Int) - 1) = true := by rw [bne_iff_ne]; omega
    go_wp2_with fail
    refine HI.out.mono ?_
    rintro r w3 ⟨rfl, rfl⟩
    obtain ⟨q0, q1, q2⟩ := Nt.cs HK2.out
    obtain ⟨f0, f1, f2⟩ := Nt.fs HK2.out
    go_wp2
    obtain ⟨e0, e1, e2⟩ := three_set HK2.out (.string ⟨#[]⟩) (.int .u32 0) (.slice none 0 0)
    exact bodyPost_ret (v := .tuple #[.agg #[.string ⟨#[]⟩, .int .u32 0, .slice none 0 0], .int .i64 11]) (by simp [results, Try.results25, go_sem, e0, e1, e2]) rfl ⟨.inl ⟨by decide, rfl⟩, HEND.out _ HG2.out _ _ _⟩
  rw [if_neg (by rw [HF.out.2 ck]; decide)] at hZ
  rw [show (k : Int) = (n : Int) - 1 by omega] at HI
  have hm1 : (((n : Int) - 1) != (n : Int) - 1) = false := by simp
  clear HF ck hkl
  go_wp2_with fail
  refine HI.out.mono ?_
  rintro r w3 ⟨rfl, rfl⟩
  clear HI
  go_wp2_with fail
  refine (HR4.out _ H812.out).mono ?_
  rintro r w3 ⟨rfl, rfl⟩
  clear HR4
  have hdl : ((zs.drop 12).drop (upN n)).length = zs.length - 12 - upN n := by rw [List.length_drop, List.length_drop]
  by_cases c5 : zs.length < 12 + upN n + upN d
  · rw [if_pos c5] at hZ
    subst hZ
    have HP := ntp_range B gb ((zs.drop 12).drop (upN n)) d w2 HTK2.out (by omega) (by omega) (by omega)
    unfold tkV at HP
    have HP := Lib.hid HP
    go_wp2_with fail
    refine HP.out.mono ?_
    rintro r w2 ⟨rfl, rfl⟩
    obtain ⟨q0, q1, q2⟩ := Nt.cs HK2.out
    obtain ⟨f0, f1, f2⟩ := Nt.fs HK2.out
    go_wp2
    obtain ⟨e0, e1, e2⟩ := three_set HK2.out (.string ⟨#[]⟩) (.int .u32 0) (.slice none 0 0)
    exact bodyPost_ret (v := .tuple #[.agg #[.string ⟨#[]⟩, .int .u32 0, .slice none 0 0], .int .i64 10]) (by simp [results, Try.results25, go_sem, e0, e1, e2]) rfl ⟨.inl ⟨by decide, rfl⟩, HEND.out _ HG2.out _ _ _⟩
  rw [if_neg c5] at hZ
  have HW := ntp_whole B gb ((zs.drop 12).drop (upN n)) d w2 HTK2.out hB (by omega) (by omega)
  unfold tkV at HW
  have HW := Lib.hid HW
  go_wp2_with fail
  refine HW.out.mono ?_
  clear HW
  rintro r w3 ⟨⟨⟨j, j1, j2, j3⟩, rfl⟩ | ⟨hpad, rfl, h82, htk2⟩, hgr2⟩
  · rw [getD_drop, getD_drop, ← Nat.add_assoc] at j3
    rw [if_pos (padOk_no j2 j1 j3)] at hZ
    subst hZ
    have HK3 := Lib.hid (HK2.out.grown hgr2 (fun e => hne (by injection e)))
    have HG3 := Lib.hid (grow_trans HG2.out hgr2)
    clear hgr2
    obtain ⟨q0, q1, q2⟩ := Nt.cs HK3.out
    obtain ⟨f0, f1, f2⟩ := Nt.fs HK3.out
    go_wp2
    obtain ⟨e0, e1, e2⟩ := three_set HK3.out (.string ⟨#[]⟩) (.int .u32 0) (.slice none 0 0)
    exact bodyPost_ret (v := .tuple #[.agg #[.string ⟨#[]⟩, .int .u32 0, .slice none 0 0], .int .i64 11]) (by simp [results, Try.results25, go_sem, e0, e1, e2]) rfl ⟨.inl ⟨by decide, rfl⟩, HEND.out _ HG3.out _ _ _⟩
  rw [if_neg (by rw [padOk_yes (fun j j1 j2 => by have := hpad j j1 j2; rw [getD_drop, getD_drop, ← Nat.add_assoc] at this; exact this)]; decide)] at hZ
  subst hZ
  have HK3 := Lib.hid (HK2.out.grown hgr2 (fun e => hne (by injection e)))
  have HG3 := Lib.hid (grow_trans HG2.out hgr2)
  have H813 := Lib.hid (H812.out.grown hgr2 (fun e => hne1 (by injection e)))
  have H823 := Lib.hid (H83.out.grown hgr2 (fun e => hne2 (by injection e)))
  obtain ⟨g3, hg3⟩ : ∃ g3, w2.heap.size = g3 := ⟨_, rfl⟩
  rw [hg3] at h82 ⊢
  have hu2 := upN_le d
  have h83 := h82.pre d
  rw [List.take_take, Nat.min_eq_left hu2.1] at h83
  have H833 := Lib.hid h83
  have HTK3 := Lib.hid htk2
  have hntl1 : ((zs.drop 12).take (n - 1)).length = n - 1 := by rw [List.length_take]; omega
  have hnb1 : ∀ m ∈ (zs.drop 12).take (n - 1), 0 ≤ m ∧ m ≤ 255 := fun m hm => HNBD.out m (List.mem_of_mem_take hm)
  have hby1 : ∀ wx, R8 wx g2 ((zs.drop 12).take n) → Bys wx wx.heap.size (some ⟨g2, 0, none⟩) (n - 1) ((zs.drop 12).take (n - 1)) := fun wx hx => by
    have h9 := hx.pre (n - 1)
    rw [List.take_take, Nat.min_eq_left (by omega)] at h9
    have := h9.bys hnb1
    rwa [hntl1] at this
  have h8d : ∀ (k g : Nat) (l : List Int), R8 w3 g l → R8 (w3.drewN k) g l := fun k g l hx => by
    have hg : w3.grownBy (w3.drewN k) none := grow_below (below_drewN (Below.refl _ _) k)
    exact hx.grown hg (by intro e; cases e)
  have hcv : ∀ k, (convert 25 9 (.slice (some ⟨g2, 0, none⟩) (n - 1) n)).run Try.prog (w3.drewN k) = .ok (.string (strOfNums ((zs.drop 12).take (n - 1)))) (w3.drewN k) := fun k => (hby1 _ (h8d k _ _ H823.out)).conv n
  have hcv0 : (convert 25 9 (.slice (some ⟨g2, 0, none⟩) (n - 1) n)).run Try.prog w3 = .ok (.string (strOfNums ((zs.drop 12).take (n - 1)))) w3 := (hby1 _ H823.out).conv n
  have hcvd : (convert 25 9 (.slice (some ⟨g2, 0, none⟩) (n - 1) n)).run Try.prog w3.drew = .ok (.string (strOfNums ((zs.drop 12).take (n - 1)))) w3.drew := hcv 1
  have hsb : bs (strOfNums ((zs.drop 12).take (n - 1))) = (zs.drop 12).take (n - 1) := bs_strOfNums hnb1
  have hsl : (strOfNums ((zs.drop 12).take (n - 1))).size ≤ maxLen := by rw [← bs_len, hsb, hntl1]; unfold maxLen; omega
  have HPN : Hid ((zs.drop 12).take (n - 1) = piece zs 12 (n - 1)) := Lib.hid rfl
  obtain ⟨nm, hnm⟩ : ∃ nm, strOfNums ((zs.drop 12).take (n - 1)) = nm := ⟨_, rfl⟩
  rw [hnm] at hcv hcv0 hcvd hsb hsl
  have HSB := Lib.hid hsb
  have HC8 : Hid (Calls Try.prog 35 #[.slice (some ⟨g1, 0, none⟩) 12 12, .int .u64 8] w3.drew fun e w' => e = .returned (.int .u64 (t : Nat)) ∧ w3.drew = w') := Lib.hid (HR8.out _ (h8d 1 _ _ H813.out))
  have HPL : Hid ((piece zs (12 + upN n) d).length = d) := Lib.hid (piece_len (by omega))
  obtain ⟨q0, q1, q2⟩ := Nt.cs HK3.out
  obtain ⟨f0, f1, f2⟩ := Nt.fs HK3.out
  have h1n : (1 : Int) ≤ n := by omega
  have hsub : (n : Int) - 1 = ((n - 1 : Nat) : Int) := by omega
  have hsub2 : ((n - 1 : Nat) : Int) ≤ n := by omega
  have HGD : Hid (w.grownBy w3.drew (some gb)) := Lib.hid (grow_trans HG3.out (grow_below (Below.refl _ _).drew))
  have HW1 : Hid (IntKind.i64.wrap ((n - 1 : Nat) : Int) = ((n - 1 : Nat) : Int)) := Lib.hid (by rw [IntWalk.i64_left]; exact IntWalk.wrap64_in _ (by omega))
  have HW2 : Hid (IntKind.u32.wrap (t : Int) = (t : Int)) := Lib.hid (IntWalk.u32_in _ (by omega))
  clear h82 h83 htk2 hgr2 hpad hnb1 hntl1 hby1 h8d hnm hsb
  go_wp2_with fail
  refine wp_region_run (by kernel_rfl) 62 rfl [51, 52, 53, 54, 55, 56, 57, 58, 59, 60, 61, 62, 3] [.slice (some ⟨g2, 0, none⟩) n n, .slice (some ⟨g2, 0, none⟩) n n, .int .i64 n, .int .i64 ((n - 1 : Nat) : Int), .slice (some ⟨g2, 0, none⟩) (n - 1) n, .string nm, .slice (some ⟨g1, 0, none⟩) 12 12, .int .u64 t, .int .u32 t, .slice (some ⟨g3, 0, none⟩) d d, .agg #[.string nm, .int .u32 t, .slice (some ⟨g3, 0, none⟩) d d], undef, .int .i64 0] (J1 11 (w3.drew) (((w3.drew.setCell ⟨w.heap.size, 0, none⟩ (.string nm)).setCell ⟨w.heap.size, 1, none⟩ (.int .u32 t)).setCell ⟨w.heap.size, 2, none⟩ (.slice (some ⟨g3, 0, none⟩) d d))) ?hj (by kernel_rfl) ?start ?steps ?fin
  case hj => exact J1.congr (by decide)
  case start => exact rfl
  case fin =>
    intro L w9 hJ hall
    obtain rfl := hJ.done (hall 11 (by decide))
    clear hJ hall
    simp only [putAll, List.set_cons_succ, List.set_cons_zero, Nat.reduceAdd, List.getD_cons_succ, List.getD_cons_zero]
    have hgs : w3.grownBy (((w3.drew.setCell ⟨w.heap.size, 0, none⟩ (.string nm)).setCell ⟨w.heap.size, 1, none⟩ (.int .u32 t)).setCell ⟨w.heap.size, 2, none⟩ (.slice (some ⟨g3, 0, none⟩) d d)) (some w.heap.size) := grow_trans (grow_trans (grow_trans (grow_below (Below.refl _ _).drew) (grow_setat _ _ _ _)) (grow_setat _ _ _ _)) (grow_setat _ _ _ _)
    have hp8 : R8 (((w3.drew.setCell ⟨w.heap.size, 0, none⟩ (.string nm)).setCell ⟨w.heap.size, 1, none⟩ (.int .u32 t)).setCell ⟨w.heap.size, 2, none⟩ (.slice (some ⟨g3, 0, none⟩) d d)) g3 (piece zs (12 + upN n) d) := by
      have h9 := H833.out.grown hgs (fun e => H833.out.ne HK3.out (by decide) (by injection e))
      rw [List.drop_drop] at h9
      exact h9
    have hpt : Tk (((w3.drew.setCell ⟨w.heap.size, 0, none⟩ (.string nm)).setCell ⟨w.heap.size, 1, none⟩ (.int .u32 t)).setCell ⟨w.heap.size, 2, none⟩ (.slice (some ⟨g3, 0, none⟩) d d)) B gb (zs.drop (12 + upN n + upN d)) := by
      have h9 := HTK3.out.grown hgs hB hgl
      rw [List.drop_drop, List.drop_drop, ← Nat.add_assoc] at h9
      exact h9
    clear hgs
    go_wp2
    obtain ⟨e0, e1, e2⟩ := three_set HK3.out (.string nm) (.int .u32 t) (.slice (some ⟨g3, 0, none⟩) d d)
    refine bodyPost_ret (v := .tuple #[.agg #[.string nm, .int .u32 t, .slice (some ⟨g3, 0, none⟩) d d], .int .i64 0]) (by simp [results, Try.results25, go_sem, e0, e1, e2]) rfl ⟨.inr ⟨rfl, nm, g3, HSB.out, hsl, ⟨by simp only; omega, by simp only; omega⟩, by simp only; rw [HPL.out], ?_, ?_⟩, HEND.out _ HGD.out _ _ _⟩
    · exact hp8
    · exact hpt
  case steps =>
    refine ⟨?_, ?_, ?_, ?_, ?_, ?_, ?_, ?_, ?_, ?_, ?_, ?_, ?_, trivial⟩
    all_goals intro L y w9 hJ hL hy0 hp0 hcl hun
    all_goals have hy := Lib.hid hy0
    all_goals have hp := Lib.hid hp0
    all_goals clear hy0 hp0 hun
    · have e1 : y 7 = .slice (some ⟨g2, 0, none⟩) n n := hy.out 7 (by decide)
      have hJ3 := Lib.hid (hJ.pure (show (11 : Nat) ≠ 0 by decide))
      intro K Q hK
      clear hcl hJ
      have v1 := (eval_frame 62 y [] (t := 7) (by decide)).trans e1
      obtain ⟨A, hA⟩ : ∃ A, (⟨frameOf 62 y, []⟩ : Act) = A := ⟨_, rfl⟩
      rw [hA] at v1 hK ⊢
      clear hA hy hp
      simp only [Act.eval] at v1
      go_simp
      exact hK _ _ ⟨fun _ => rfl, hJ3.out⟩
    · have e1 : y 7 = .slice (some ⟨g2, 0, none⟩) n n := hy.out 7 (by decide)
      have hJ3 := Lib.hid (hJ.pure (show (11 : Nat) ≠ 1 by decide))
      intro K Q hK
      clear hcl hJ
      have v1 := (eval_frame 62 y [] (t := 7) (by decide)).trans e1
      obtain ⟨A, hA⟩ : ∃ A, (⟨frameOf 62 y, []⟩ : Act) = A := ⟨_, rfl⟩
      rw [hA] at v1 hK ⊢
      clear hA hy hp
      simp only [Act.eval] at v1
      go_simp
      exact hK _ _ ⟨fun _ => rfl, hJ3.out⟩
    · have e1 : y 52 = .slice (some ⟨g2, 0, none⟩) n n := (hp.out 1 (by decide)).2 (by decide)
      have hJ3 := Lib.hid (hJ.pure (show (11 : Nat) ≠ 2 by decide))
      intro K Q hK
      clear hcl hJ
      have v1 := (eval_frame 62 y [] (t := 52) (by decide)).trans e1
      obtain ⟨A, hA⟩ : ∃ A, (⟨frameOf 62 y, []⟩ : Act) = A := ⟨_, rfl⟩
      rw [hA] at v1 hK ⊢
      clear hA hy hp
      simp only [Act.eval] at v1
      go_simp
      exact hK _ _ ⟨fun _ => rfl, hJ3.out⟩
    · have e1 : y 53 = .int .i64 n := (hp.out 2 (by decide)).2 (by decide)
      have hJ3 := Lib.hid (hJ.pure (show (11 : Nat) ≠ 3 by decide))
      intro K Q hK
      clear hcl hJ
      have v1 := (eval_frame 62 y [] (t := 53) (by decide)).trans e1
      obtain ⟨A, hA⟩ : ∃ A, (⟨frameOf 62 y, []⟩ : Act) = A := ⟨_, rfl⟩
      rw [hA] at v1 hK ⊢
      clear hA hy hp
      simp only [Act.eval] at v1
      go_simp
      exact hK _ _ ⟨fun _ => by rw [HW1.out]; rfl, hJ3.out⟩
    · have e1 : y 51 = .slice (some ⟨g2, 0, none⟩) n n := (hp.out 0 (by decide)).2 (by decide)
      have e2 : y 54 = .int .i64 ((n - 1 : Nat) : Int) := (hp.out 3 (by decide)).2 (by decide)
      have hJ3 := Lib.hid (hJ.pure (show (11 : Nat) ≠ 4 by decide))
      intro K Q hK
      clear hcl hJ
      have v1 := (eval_frame 62 y [] (t := 51) (by decide)).trans e1
      have v2 := (eval_frame 62 y [] (t := 54) (by decide)).trans e2
      obtain ⟨A, hA⟩ : ∃ A, (⟨frameOf 62 y, []⟩ : Act) = A := ⟨_, rfl⟩
      rw [hA] at v1 v2 hK ⊢
      clear hA hy hp
      simp only [Act.eval] at v1 v2
      go_simp
      exact hK _ _ ⟨fun _ => rfl, hJ3.out⟩
    · have e1 : y 55 = .slice (some ⟨g2, 0, none⟩) (n - 1) n := (hp.out 4 (by decide)).2 (by decide)
      have hLw : L 11 = false := by
        cases h : L 11 with
        | false => rfl
        | true => have := (hcl 10 _ rfl (hcl 11 _ rfl h 10 (by decide)) 5 (by decide)); rw [hL] at this; cases this
      obtain rfl := hJ.ahead hLw
      have hJ3 := Lib.hid (hJ.pure (show (11 : Nat) ≠ 5 by decide))
      intro K Q hK
      clear hcl hJ
      have v1 := (eval_frame 62 y [] (t := 55) (by decide)).trans e1
      obtain ⟨A, hA⟩ : ∃ A, (⟨frameOf 62 y, []⟩ : Act) = A := ⟨_, rfl⟩
      rw [hA] at v1 hK ⊢
      clear hA hy hp
      simp only [Act.eval] at v1
      go_simp
      exact hK _ _ ⟨fun _ => rfl, hJ3.out⟩
    · have e1 : y 4 = .slice (some ⟨g1, 0, none⟩) 12 12 := hy.out 4 (by decide)
      have hJ3 := Lib.hid (hJ.pure (show (11 : Nat) ≠ 6 by decide))
      intro K Q hK
      clear hcl hJ
      have v1 := (eval_frame 62 y [] (t := 4) (by decide)).trans e1
      obtain ⟨A, hA⟩ : ∃ A, (⟨frameOf 62 y, []⟩ : Act) = A := ⟨_, rfl⟩
      rw [hA] at v1 hK ⊢
      clear hA hy hp
      simp only [Act.eval] at v1
      go_simp
      exact hK _ _ ⟨fun _ => rfl, hJ3.out⟩
    · have e1 : y 57 = .slice (some ⟨g1, 0, none⟩) 12 12 := (hp.out 6 (by decide)).2 (by decide)
      have hLw : L 11 = false := by
        cases h : L 11 with
        | false => rfl
        | true => have := (hcl 8 _ rfl (hcl 10 _ rfl (hcl 11 _ rfl h 10 (by decide)) 8 (by decide)) 7 (by decide)); rw [hL] at this; cases this
      obtain rfl := hJ.ahead hLw
      have hJ3 := Lib.hid (hJ.pure (show (11 : Nat) ≠ 7 by decide))
      intro K Q hK
      clear hcl hJ
      have v1 := (eval_frame 62 y [] (t := 57) (by decide)).trans e1
      obtain ⟨A, hA⟩ : ∃ A, (⟨frameOf 62 y, []⟩ : Act) = A := ⟨_, rfl⟩
      rw [hA] at v1 hK ⊢
      clear hA hy hp
      simp only [Act.eval] at v1
      go_simp
      go_at_call 35
      refine HC8.out.mono ?_
      rintro r w7 ⟨rfl, rfl⟩
      exact hK _ _ ⟨fun _ => rfl, hJ3.out⟩
    · have e1 : y 58 = .int .u64 t := (hp.out 7 (by decide)).2 (by decide)
      have hJ3 := Lib.hid (hJ.pure (show (11 : Nat) ≠ 8 by decide))
      intro K Q hK
      clear hcl hJ
      have v1 := (eval_frame 62 y [] (t := 58) (by decide)).trans e1
      obtain ⟨A, hA⟩ : ∃ A, (⟨frameOf 62 y, []⟩ : Act) = A := ⟨_, rfl⟩
      rw [hA] at v1 hK ⊢
      clear hA hy hp
      simp only [Act.eval] at v1
      go_simp
      exact hK _ _ ⟨fun _ => by rw [HW2.out]; rfl, hJ3.out⟩
    · have e1 : y 8 = .slice (some ⟨g3, 0, none⟩) d d := hy.out 8 (by decide)
      have hJ3 := Lib.hid (hJ.pure (show (11 : Nat) ≠ 9 by decide))
      intro K Q hK
      clear hcl hJ
      have v1 := (eval_frame 62 y [] (t := 8) (by decide)).trans e1
      obtain ⟨A, hA⟩ : ∃ A, (⟨frameOf 62 y, []⟩ : Act) = A := ⟨_, rfl⟩
      rw [hA] at v1 hK ⊢
      clear hA hy hp
      simp only [Act.eval] at v1
      go_simp
      exact hK _ _ ⟨fun _ => rfl, hJ3.out⟩
    · have e1 : y 56 = .string nm := (hp.out 5 (by decide)).2 (by decide)
      have e2 : y 59 = .int .u32 t := (hp.out 8 (by decide)).2 (by decide)
      have e3 : y 60 = .slice (some ⟨g3, 0, none⟩) d d := (hp.out 9 (by decide)).2 (by decide)
      have hJ3 := Lib.hid (hJ.pure (show (11 : Nat) ≠ 10 by decide))
      intro K Q hK
      clear hcl hJ
      have v1 := (eval_frame 62 y [] (t := 56) (by decide)).trans e1
      have v2 := (eval_frame 62 y [] (t := 59) (by decide)).trans e2
      have v3 := (eval_frame 62 y [] (t := 60) (by decide)).trans e3
      obtain ⟨A, hA⟩ : ∃ A, (⟨frameOf 62 y, []⟩ : Act) = A := ⟨_, rfl⟩
      rw [hA] at v1 v2 v3 hK ⊢
      clear hA hy hp
      simp only [Act.eval] at v1 v2 v3
      rw [Array.getD_eq_getD_getElem?] at v1 v2 v3
      go_simp
      exact hK _ _ ⟨fun _ => rfl, hJ3.out⟩
    · have e1 : y 2 = .pointer (some ⟨w.heap.size, 0, none⟩) := hy.out 2 (by decide)
      have e2 : y 61 = .agg #[.string nm, .int .u32 t, .slice (some ⟨g3, 0, none⟩) d d] := (hp.out 10 (by decide)).2 (by decide)
      obtain rfl := hJ.ahead hL
      have hJ3 := Lib.hid (J1.write (j := 11) (W0 := w3.drew) (W1 := ((w3.drew.setCell ⟨w.heap.size, 0, none⟩ (.string nm)).setCell ⟨w.heap.size, 1, none⟩ (.int .u32 t)).setCell ⟨w.heap.size, 2, none⟩ (.slice (some ⟨g3, 0, none⟩) d d)) (L := L))
      intro K Q hK
      clear hcl hJ
      have v1 := (eval_frame 62 y [] (t := 2) (by decide)).trans e1
      have v2 := (eval_frame 62 y [] (t := 61) (by decide)).trans e2
      obtain ⟨A, hA⟩ : ∃ A, (⟨frameOf 62 y, []⟩ : Act) = A := ⟨_, rfl⟩
      rw [hA] at v1 v2 hK ⊢
      clear hA hy hp
      simp only [Act.eval] at v1 v2
      go_simp
      exact hK undef _ ⟨fun h => absurd h (by decide), hJ3.out⟩
    · have hJ3 := Lib.hid (hJ.pure (show (11 : Nat) ≠ 12 by decide))
      intro K Q hK
      clear hcl hJ
      obtain ⟨A, hA⟩ : ∃ A, (⟨frameOf 62 y, []⟩ : Act) = A := ⟨_, rfl⟩
      rw [hA] at hK ⊢
      clear hA hy hp
      go_simp
      exact hK _ _ ⟨fun _ => rfl, hJ3.out⟩
end Go.Proofs.Ytkgakdlalmmdiaa
