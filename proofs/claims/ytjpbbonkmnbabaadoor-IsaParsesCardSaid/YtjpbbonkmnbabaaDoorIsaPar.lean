/-
  What is proved here: the reference of isa: Parse, as a whole.
  Conditions: none but that the arguments are values of their types; texts of at most a million bytes.
-/
import Derived.Test.YtjpbbonkmnbabaaDoorIsaPrs
namespace Go.Proofs.YtjpbbonkmnbabaaDoor
open Go.RowKit
set_option linter.unusedVariables false
set_option linter.unusedSimpArgs false

theorem info_i64 : (Tryd.prog.info? 2).map (fun i => (i.zero, i.size, i.bytes)) = some (some (.int .i64 0), 1, 8) := by kernel_rfl
def errP : Value := .tuple #[In.zero.val, .int .i64 11]
def parseV (s : ByteArray) : Value := .tuple #[(parseI s).1.val, .int .i64 (parseI s).2]
theorem parseV_1 {s : ByteArray} (h : (splitI s).length = 0) : parseV s = errP := by unfold parseV parseI; rw [if_pos h]; rfl
theorem parseV_2 {s : ByteArray} (h : opI ((splitI s).getD 0 ⟨#[]⟩) = 0) : parseV s = errP := by
  unfold parseV parseI
  by_cases c : (splitI s).length = 0
  · rw [if_pos c]; rfl
  · rw [if_neg c, if_pos h]; rfl
theorem parseV_3 {s : ByteArray} (h : fieldsI (splitI s) (opI ((splitI s).getD 0 ⟨#[]⟩)) = none) : parseV s = errP := by
  unfold parseV parseI
  by_cases c : (splitI s).length = 0
  · rw [if_pos c]; rfl
  · by_cases c2 : opI ((splitI s).getD 0 ⟨#[]⟩) = 0
    · rw [if_neg c, if_pos c2]; rfl
    · rw [if_neg c, if_neg c2, h]; rfl
theorem parseV_4 {s : ByteArray} (i : In) (h1 : ¬ (splitI s).length = 0) (h2 : ¬ opI ((splitI s).getD 0 ⟨#[]⟩) = 0) (h : fieldsI (splitI s) (opI ((splitI s).getD 0 ⟨#[]⟩)) = some i) : parseV s = .tuple #[i.val, .int .i64 0] := by
  unfold parseV parseI
  rw [if_neg h1, if_neg h2, h]
theorem own_len {base : Nat} {w : World} {L : List ByteArray} {a : Option Addr} {c : Nat} (h : Rs base w (.slice a L.length c) L) : (L.length : Int) ≤ 9223372036854775807 := by
  rcases h.2 with ⟨hv, e0⟩ | ⟨g, c', cur, hv, _, _, h1, h2, _⟩
  · omega
  · unfold maxLen at h2; omega
theorem hasK_bd {h : Int} {k : Nat} (h0 : 0 ≤ h) (h1 : h ≤ 11) (hk : k < 4) : 0 ≤ hasK h k ∧ hasK h k ≤ 11 ∧ hasK h (k + 1) = hasK h k / 2 := by
  obtain rfl | rfl | rfl | rfl : k = 0 ∨ k = 1 ∨ k = 2 ∨ k = 3 := by omega
  all_goals exact ⟨by (simp only [hasK]; omega), by (simp only [hasK]; omega), rfl⟩
theorem fieldK_read {L : List ByteArray} {h : Int} {k t : Nat} {vs : List Int} (e : fieldK L h k = some (vs, t)) (hb : hasK h k % 2 = 1) (ht : t < L.length) : fieldK L h (k + 1) = some (vs ++ [readI (L.getD t ⟨#[]⟩)], t + 1) := by
  rw [fieldK, e]
  simp only [takeF]
  rw [if_pos hb, if_pos ht]
theorem fieldK_out {L : List ByteArray} {h : Int} {k t : Nat} {vs : List Int} (e : fieldK L h k = some (vs, t)) (hb : hasK h k % 2 = 1) (ht : ¬ t < L.length) : fieldK L h (k + 1) = none := by
  rw [fieldK, e]
  simp only [takeF]
  rw [if_pos hb, if_neg ht]
theorem fieldK_skip {L : List ByteArray} {h : Int} {k t : Nat} {vs : List Int} (e : fieldK L h k = some (vs, t)) (hb : ¬ hasK h k % 2 = 1) : fieldK L h (k + 1) = some (vs ++ [0], t) := by
  rw [fieldK, e]
  simp only [takeF]
  rw [if_neg hb]
theorem map_set_i64 (zs : List Int) (i : Nat) (c : Int) : (zs.map (Value.int .i64)).set i (.int .i64 c) = (zs.set i c).map (Value.int .i64) := by rw [List.map_set]
theorem pad_zero {vs : List Int} {k : Nat} (hk : k < 4) : vs ++ List.replicate (4 - k) 0 = (vs ++ [0]) ++ List.replicate (4 - (k + 1)) 0 := by
  rw [show 4 - k = (4 - (k + 1)) + 1 by omega, List.replicate_succ, List.append_assoc]
  rfl
theorem pad_set {vs : List Int} {k : Nat} (hv : vs.length = k) (hk : k < 4) (x : Int) : (vs ++ List.replicate (4 - k) 0).set k x = (vs ++ [x]) ++ List.replicate (4 - (k + 1)) 0 := by
  subst hv
  rw [show 4 - vs.length = (4 - (vs.length + 1)) + 1 by omega, List.replicate_succ, List.set_append, if_neg (by omega), Nat.sub_self, List.append_assoc]
  rfl
set_option maxRecDepth 100000 in
set_option maxHeartbeats 6400000 in
theorem rparse_v (s : ByteArray) (w : World) (hs : s.size ≤ 1000000) :
    Calls Tryd.prog 19 #[.string s] w fun r w' => r = .returned (parseV s) ∧ Below w.heap.size w w' := by
  have hp1 := @parseV_1 s
  have hp2 := @parseV_2 s
  have hp3 := @parseV_3 s
  have hp4 := @parseV_4 s
  have hsz := splitI_size s
  have HSP := Lib.hid (fun w1 => rsplit_any s w1 hs)
  obtain ⟨L, hL⟩ : ∃ L, splitI s = L := ⟨_, rfl⟩
  rw [hL] at hp1 hp2 hp3 HSP hsz
  simp only [hL] at hp4
  obtain ⟨V, hV⟩ : ∃ V, parseV s = V := ⟨_, rfl⟩
  rw [hV] at hp1 hp2 hp3 ⊢
  simp only [hV] at hp4
  have HP1 := Lib.hid hp1
  have HP2 := Lib.hid hp2
  have HP3 := Lib.hid hp3
  have HP4 := Lib.hid hp4
  have HSZ := Lib.hid hsz
  have HE : Hid (errP = .tuple #[.agg #[.int .i64 0, .int .i64 0, .int .i64 0, .int .i64 0, .int .i64 0], .int .i64 11]) := Lib.hid rfl
  obtain ⟨X, hX⟩ : ∃ X, X = w.alloc (.cells #[.int .i64 0, .int .i64 0, .int .i64 0, .int .i64 0, .int .i64 0] 31) := ⟨_, rfl⟩
  have HXE := Lib.hid hX
  have HKX : Hid (Blk X w.heap.size #[.int .i64 0, .int .i64 0, .int .i64 0, .int .i64 0, .int .i64 0] 31) := Lib.hid (hX ▸ Blk.new w _ _)
  have HBX : Hid (Below w.heap.size w X) := Lib.hid (hX ▸ (Below.refl _ _).alloc (Nat.le_refl _) _)
  clear hp1 hp2 hp3 hp4 hsz hL hV hX
  obtain ⟨i0, hi, hz0, hz1, hz2⟩ := info_parts info_i64
  have HI := Lib.hid hi
  have HZ0 := Lib.hid hz0
  have HZ1 := Lib.hid hz1
  have HZ2 := Lib.hid hz2
  clear hi hz0 hz1 hz2
  go_enter Tryd.func19, Tryd.ntmps19
  go_wp2_with fail
  rw [← HXE.out]
  refine (HSP.out X).mono ?_
  rintro r w1 ⟨⟨u, rfl, ho⟩, hb1⟩
  obtain ⟨ua, uc, rfl⟩ := own_slice ho
  have HST := Lib.hid (Strs.own ho)
  have HLL := Lib.hid (own_len ho)
  have HB1 := Lib.hid (HBX.out.trans (hb1.mono HBX.out.size))
  have HK1 := Lib.hid (HKX.out.later hb1)
  have hX1 := hb1.size
  have hXs := HBX.out.size
  obtain ⟨n, hn⟩ : ∃ n, L.length = n := ⟨_, rfl⟩
  have HN := Lib.hid hn
  rw [hn] at HST HLL ⊢
  have hni : (n : Int) ≤ 9223372036854775807 := HLL.out
  clear ho hb1 hn HKX HBX HSP
  by_cases hn0 : n = 0
  · subst hn0
    have HD : Hid (V = .tuple #[.agg #[.int .i64 0, .int .i64 0, .int .i64 0, .int .i64 0, .int .i64 0], .int .i64 11]) := Lib.hid ((HP1.out HN.out).trans HE.out)
    obtain ⟨q0, q1, q2, q3, q4⟩ : _ ∧ _ ∧ _ ∧ _ ∧ _ := ⟨HK1.out.cell 0, HK1.out.cell 1, HK1.out.cell 2, HK1.out.cell 3, HK1.out.cell 4⟩
    obtain ⟨f0, f1, f2, f3, f4⟩ : _ ∧ _ ∧ _ ∧ _ ∧ _ := ⟨HK1.out.frozen 0, HK1.out.frozen 1, HK1.out.frozen 2, HK1.out.frozen 3, HK1.out.frozen 4⟩
    go_wp2
    obtain ⟨e0, e1, e2, e3, e4⟩ := three_five HK1.out (.int .i64 0) (.int .i64 0) (.int .i64 0) (.int .i64 0) (.int .i64 0)
    exact bodyPost_ret (v := .tuple #[.agg #[.int .i64 0, .int .i64 0, .int .i64 0, .int .i64 0, .int .i64 0], .int .i64 11]) (by simp [results, Tryd.results19, go_sem, e0, e1, e2, e3, e4]) rfl ⟨by rw [HD.out], five_below HB1.out (Nat.le_refl _) _ _ _ _ _⟩
  have hnz : ((n : Int) == 0) = false := by rw [beq_eq_false_iff_ne]; omega
  have hnp : (0 : Int) < n := by omega
  obtain ⟨b, off, rfl, hbl, hcells⟩ := HST.out.2 (by omega)
  have HCE : Hid (∀ w' i, Below w1.heap.size w1 w' → i < n → w'.cell? ⟨b, off + i, none⟩ = some (.string (L.getD i .empty))) := Lib.hid (fun w' i hb hi => (hb.cell (p := ⟨b, off + i, none⟩) hbl).trans (hcells i hi))
  obtain ⟨w0, hw0⟩ : ∃ w0 : ByteArray, L.getD 0 ⟨#[]⟩ = w0 := ⟨_, rfl⟩
  have HC0 : Hid (∀ w', Below w1.heap.size w1 w' → w'.cell? ⟨b, off, none⟩ = some (.string w0)) := Lib.hid (fun w' hb => by rw [← hw0]; exact HCE.out w' 0 hb (by omega))
  have hp2 := HP2.out
  have hp3 := HP3.out
  have hp4 := HP4.out
  rw [hw0] at hp2 hp3
  simp only [hw0] at hp4
  have HP2 := Lib.hid hp2
  have HP3 := Lib.hid hp3
  have HP4 := Lib.hid hp4
  have HWD := Lib.hid (fun k w' (h0 : 0 ≤ k) (h1 : k ≤ 41) => rword_o k w' (by omega) (by omega))
  have HO41 : Hid (opL w0 41 = opI w0) := Lib.hid rfl
  clear hcells hw0 HST HLL hp2 hp3 hp4
  go_wp2
  go_loopw [5, 6] (fun ov kv wr => ∃ k : Nat, k ≤ 41 ∧ kv = .int .i64 ((k : Int) + 1) ∧ ov = .int .i64 (opL w0 k) ∧ Below w1.heap.size w1 wr) (fun _ kv _ => 42 - (intOf kv).toNat)
  case atStart => exact ⟨0, by decide, rfl, rfl, Below.refl _ _⟩
  case round =>
    obtain ⟨k, hk, rfl, rfl, hbel⟩ := hrel
    have HB := Lib.hid hbel
    clear hbel
    by_cases hlt : k < 41
    · have hki : (k : Int) + 1 ≤ 41 := by omega
      have c0 := HC0.out _ HB.out
      have hbw : b < wr.heap.size := by have := HB.out.size; omega
      have HWC := Lib.hid (HWD.out ((k : Int) + 1) wr.drew (by omega) (by omega))
      have HB2 : Hid (∀ o, Below w1.heap.size w1 (wr.drew.alloc o)) := Lib.hid (fun o => HB.out.drew.alloc HB.out.size o)
      by_cases he : wordI ((k : Int) + 1) = w0
      · have HOP : Hid (opL w0 (k + 1) = (k : Int) + 1) := Lib.hid (by rw [opL_yes (by rw [← he]; congr 1)]; omega)
        rw [he] at HWC
        have hq : (w0.toList == w0.toList) = true := by simp
        clear he
        go_wp2_with fail
        go_region_with (go_at_call 27; refine HWC.out.mono ?_; rintro r w' ⟨rfl, o, rfl⟩)
        all_goals go_wp2
        all_goals exact ⟨⟨k + 1, by omega, by go_num, by rw [HOP.out], HB2.out _⟩, by (simp [intOf] <;> omega)⟩
      · have HOP : Hid (opL w0 (k + 1) = opL w0 k) := Lib.hid (opL_no (fun e => he (by rw [← e]; congr 1)))
        have hq := str_ne he
        have hq2 : ¬ (wordI ((k : Int) + 1)).toList = w0.toList := fun e => he (str_inj e)
        generalize wordI ((k : Int) + 1) = WK at HWC hq hq2
        clear he
        go_wp2_with fail
        go_region_with (go_at_call 27; refine HWC.out.mono ?_; rintro r w' ⟨rfl, o, rfl⟩)
        all_goals go_wp2
        all_goals exact ⟨⟨k + 1, by omega, by go_num, by rw [HOP.out], HB2.out _⟩, by (simp [intOf] <;> omega)⟩
    · obtain rfl : k = 41 := by omega
      obtain ⟨w2, rfl⟩ : ∃ w2 : World, w2 = wr := ⟨_, rfl⟩
      have HK2 := Lib.hid (HK1.out.later HB.out)
      have HB2 := Lib.hid (HB1.out.trans (HB.out.mono HB1.out.size))
      rw [HO41.out]
      clear HC0 HWD
      have hbd := opL_bd w0 41
      rw [HO41.out] at hbd
      obtain ⟨op, hop⟩ : ∃ op, opI w0 = op := ⟨_, rfl⟩
      rw [hop] at HP2 HP3 HP4 hbd ⊢
      clear hop HO41
      by_cases h0 : op = 0
      · subst h0
        have HD : Hid (V = .tuple #[.agg #[.int .i64 0, .int .i64 0, .int .i64 0, .int .i64 0, .int .i64 0], .int .i64 11]) := Lib.hid ((HP2.out rfl).trans HE.out)
        obtain ⟨q0, q1, q2, q3, q4⟩ : _ ∧ _ ∧ _ ∧ _ ∧ _ := ⟨HK2.out.cell 0, HK2.out.cell 1, HK2.out.cell 2, HK2.out.cell 3, HK2.out.cell 4⟩
        obtain ⟨f0, f1, f2, f3, f4⟩ : _ ∧ _ ∧ _ ∧ _ ∧ _ := ⟨HK2.out.frozen 0, HK2.out.frozen 1, HK2.out.frozen 2, HK2.out.frozen 3, HK2.out.frozen 4⟩
        go_wp2
        obtain ⟨e0, e1, e2, e3, e4⟩ := three_five HK2.out (.int .i64 0) (.int .i64 0) (.int .i64 0) (.int .i64 0) (.int .i64 0)
        exact bodyPost_ret (v := .tuple #[.agg #[.int .i64 0, .int .i64 0, .int .i64 0, .int .i64 0, .int .i64 0], .int .i64 11]) (by simp [results, Tryd.results19, go_sem, e0, e1, e2, e3, e4]) rfl ⟨by rw [HD.out], five_below HB2.out (Nat.le_refl _) _ _ _ _ _⟩
      have h0b : (op == 0) = false := by rw [beq_eq_false_iff_ne]; exact h0
      have HH := Lib.hid (fun w' => rhas_any op w')
      have hh := hasI_bd op
      have hbw : b < w2.heap.size := by have := HB.out.size; omega
      have hww : w.heap.size < w2.heap.size := HK2.out.lt
      go_wp2_with (at_make; refine wpList_make_full _ rfl _ _ 69 rfl w2.heap.size 2 i0 (.int .i64 0) 1 Tryd.underlying69 HI.out HZ0.out HZ1.out .i64 .i64 _ _ 4 rfl rfl rfl rfl ?c1 ?c2 ?c3 ?_)
      case c1 => rw [HZ2.out]; omega
      case c2 => unfold maxLen; omega
      case c3 => exact Nat.le_refl _
      intro w3 hown hg
      rw [toList_madeCells_one] at hown
      have HOW0 := Lib.hid hown
      have HB3 : Hid (Below w2.heap.size w2 w3) := Lib.hid ((Below.refl _ _).grown hg (Nat.le_refl _) (fun _ e => by cases e))
      clear hown hg
      go_wp2_with fail
      refine (HH.out _).mono ?_
      rintro r w4 ⟨rfl, rfl⟩
      obtain ⟨H, hH⟩ : ∃ H, hasI op = H := ⟨_, rfl⟩
      have HHE := Lib.hid hH
      rw [hH] at hh ⊢
      clear hH HH
      obtain ⟨gv, hgv⟩ : ∃ gv, w2.heap.size = gv := ⟨_, rfl⟩
      have HGV := Lib.hid hgv
      rw [hgv] at HOW0 HB3 hbw hww ⊢
      clear hgv
      go_wp2
      go_loopw [8, 9, 10] (fun hv tv kv wl => ∃ (k : Nat) (vs : List Int) (t : Nat), k ≤ 4 ∧ kv = .int .i64 k ∧ hv = .int .i64 (hasK H k) ∧ tv = .int .i64 t ∧ fieldK L H k = some (vs, t) ∧ wl.ownsRow gv 2 1 (.slice (some ⟨gv, 0, none⟩) 4 4) 4 ((vs ++ List.replicate (4 - k) 0).map (Value.int .i64)) ∧ Below gv w2 wl) (fun _ _ kv _ => 4 - (intOf kv).toNat)
      case atStart => exact ⟨0, [], 1, by decide, rfl, rfl, rfl, rfl, by rw [List.nil_append, List.map_replicate]; exact HOW0.out, HB3.out⟩
      case round =>
        obtain ⟨k, vs, t, hk4, rfl, rfl, rfl, hfk, hown, hbel⟩ := hrel
        obtain ⟨hvl, ht1, htk, hvb⟩ := fieldK_len hfk
        have HOW := Lib.hid hown
        have HBL := Lib.hid hbel
        have HVB := Lib.hid hvb
        have HFK := Lib.hid hfk
        have HBW := Lib.hid (HB2.out.trans (hbel.mono (by have := HB2.out.size; omega)))
        have HKW := Lib.hid (HK2.out.below hbel hww)
        have hti : (t : Int) ≤ 5 := by omega
        clear hown hbel hvb hfk HOW0 HB3
        by_cases hk : k < 4
        · have hki : (k : Int) < 4 := by omega
          obtain ⟨hx0, hx1, hxs⟩ := hasK_bd hh.1 hh.2 hk
          have HHK := Lib.hid hxs
          by_cases hbit : hasK H k % 2 = 1
          · by_cases htn : t < n
            · have htni : (t : Int) < n := by omega
              have HFK2 := Lib.hid (fieldK_read HFK.out hbit (by rw [HN.out]; exact htn))
              have hmem : L.getD t .empty ∈ L := by
                rw [List.getD_eq_getElem?_getD, List.getElem?_eq_getElem (by rw [HN.out]; exact htn)]
                exact List.getElem_mem _
              have HRD := Lib.hid (fun w' => rread_any (L.getD t .empty) w' (by have := (HSZ.out _ hmem).2; omega))
              have hcc := HCE.out wr t (HB.out.trans (HBL.out.mono (by have := HB.out.size; have := HGV.out; omega))) htn
              have hrb := readI_bd (L.getD t .empty)
              rw [show (⟨#[]⟩ : ByteArray) = .empty from rfl] at HFK2
              generalize L.getD t .empty = wt at HFK2 HRD hcc hrb
              generalize readI wt = x at HFK2 HRD hrb
              have hfz := HOW.out.frozenAt k
              have hst := (HOW.out.stored k (.int .i64 x)).1
              rw [map_set_i64, pad_set hvl hk] at hst
              have hcv := HOW.out.cellAt k (by omega)
              have hcv2 : ∃ v, wr.cell? ⟨gv, k, none⟩ = some v := by
                rw [hcv]
                have hlen : ((vs ++ List.replicate (4 - k) 0).map (Value.int .i64)).length = 4 := by simp [hvl]; omega
                exact ⟨_, List.getElem?_eq_getElem (by rw [hlen]; exact hk)⟩
              obtain ⟨vo, hvo⟩ := hcv2
              have HST := Lib.hid hst
              have HBS := Lib.hid (HBL.out.setCell (p := ⟨gv, k, none⟩) (Nat.le_refl _) (.int .i64 x))
              generalize hasK H k = hx at HHK hx0 hx1 hbit ⊢
              clear hst hcv hmem
              go_wp2_with (go_at_call 37; refine (HRD.out _).mono ?_; rintro r w' ⟨rfl, rfl⟩)
              exact ⟨⟨k + 1, vs ++ [x], t + 1, by omega, by go_num, by rw [HHK.out], by go_num, HFK2.out, HST.out, HBS.out⟩, by (simp [intOf] <;> omega)⟩
            · have htni : ¬ (t : Int) < n := by omega
              have HD : Hid (V = .tuple #[.agg #[.int .i64 0, .int .i64 0, .int .i64 0, .int .i64 0, .int .i64 0], .int .i64 11]) := Lib.hid ((HP3.out (fieldsI_none (by rw [HHE.out]; exact fieldK_none (fieldK_out HFK.out hbit (by rw [HN.out]; exact htn)) 4 (by omega)))).trans HE.out)
              generalize hasK H k = hx at HHK hx0 hx1 hbit ⊢
              obtain ⟨q0, q1, q2, q3, q4⟩ : _ ∧ _ ∧ _ ∧ _ ∧ _ := ⟨HKW.out.cell 0, HKW.out.cell 1, HKW.out.cell 2, HKW.out.cell 3, HKW.out.cell 4⟩
              obtain ⟨f0, f1, f2, f3, f4⟩ : _ ∧ _ ∧ _ ∧ _ ∧ _ := ⟨HKW.out.frozen 0, HKW.out.frozen 1, HKW.out.frozen 2, HKW.out.frozen 3, HKW.out.frozen 4⟩
              go_wp2
              obtain ⟨e0, e1, e2, e3, e4⟩ := three_five HKW.out (.int .i64 0) (.int .i64 0) (.int .i64 0) (.int .i64 0) (.int .i64 0)
              exact bodyPost_ret (v := .tuple #[.agg #[.int .i64 0, .int .i64 0, .int .i64 0, .int .i64 0, .int .i64 0], .int .i64 11]) (by simp [results, Tryd.results19, go_sem, e0, e1, e2, e3, e4]) rfl ⟨by rw [HD.out], five_below HBW.out (Nat.le_refl _) _ _ _ _ _⟩
          · have HFK2 := Lib.hid (fieldK_skip HFK.out hbit)
            generalize hasK H k = hx at HHK hx0 hx1 hbit ⊢
            have HOW2 := HOW.out
            rw [pad_zero hk] at HOW2
            have HOW3 := Lib.hid HOW2
            clear HOW2
            go_wp2
            exact ⟨⟨k + 1, vs ++ [0], t, by omega, by go_num, by rw [HHK.out], rfl, HFK2.out, HOW3.out, HBL.out⟩, by (simp [intOf] <;> omega)⟩
        · obtain rfl : k = 4 := by omega
          obtain ⟨fa, fb, fc, fm, rfl, hF⟩ := fieldsI_some (op := op) (by rw [HHE.out]; exact HFK.out)
          have HF := Lib.hid hF
          obtain ⟨⟨a0, a1⟩, ⟨b0, b1⟩, ⟨c0, c1⟩, m0, m1⟩ : (-10000000000009 ≤ fa ∧ fa ≤ 10000000000009) ∧ (-10000000000009 ≤ fb ∧ fb ≤ 10000000000009) ∧ (-10000000000009 ≤ fc ∧ fc ≤ 10000000000009) ∧ -10000000000009 ≤ fm ∧ fm ≤ 10000000000009 :=
            ⟨HVB.out fa (by simp), HVB.out fb (by simp), HVB.out fc (by simp), HVB.out fm (by simp)⟩
          have HBAD : Hid (¬ ((0 ≤ fa ∧ fa ≤ 31) ∧ (0 ≤ fb ∧ fb ≤ 31) ∧ (0 ≤ fc ∧ fc ≤ 31)) → V = .tuple #[.agg #[.int .i64 0, .int .i64 0, .int .i64 0, .int .i64 0, .int .i64 0], .int .i64 11]) := Lib.hid (fun hb => (HP3.out (HF.out.trans (if_neg (fun h => by
            obtain ⟨-, h1, h2, h3, -⟩ := mayI_bd h.2
            exact hb ⟨h1, h2, h3⟩)))).trans HE.out)
          obtain ⟨v0, v1, v2, v3⟩ : wr.cell? ⟨gv, 0, none⟩ = some (.int .i64 fa) ∧ wr.cell? ⟨gv, 1, none⟩ = some (.int .i64 fb) ∧ wr.cell? ⟨gv, 2, none⟩ = some (.int .i64 fc) ∧ wr.cell? ⟨gv, 3, none⟩ = some (.int .i64 fm) :=
            ⟨HOW.out.cellAt 0 (by decide), HOW.out.cellAt 1 (by decide), HOW.out.cellAt 2 (by decide), HOW.out.cellAt 3 (by decide)⟩
          have hgl : gv < wr.heap.size := block_lt v0
          clear hF hvl hk
          obtain ⟨w4, rfl⟩ : ∃ w4 : World, w4 = wr := ⟨_, rfl⟩
          go_wp2
          go_loop [11] (fun kv => ∃ k : Nat, k ≤ 3 ∧ kv = .int .i64 k ∧ (0 < k → 0 ≤ fa ∧ fa ≤ 31) ∧ (1 < k → 0 ≤ fb ∧ fb ≤ 31) ∧ (2 < k → 0 ≤ fc ∧ fc ≤ 31)) (fun kv => 3 - (intOf kv).toNat)
          case atStart => exact ⟨0, by decide, rfl, fun h => absurd h (by decide), fun h => absurd h (by decide), fun h => absurd h (by decide)⟩
          case round =>
            obtain ⟨k, hk3, rfl, ga, gb', gc⟩ := hrel
            obtain rfl | rfl | rfl | rfl : k = 0 ∨ k = 1 ∨ k = 2 ∨ k = 3 := by omega
            · by_cases hr : 0 ≤ fa ∧ fa ≤ 31
              · obtain ⟨hr0, hr1⟩ := hr
                have hr2 : ¬ fa < 0 := by omega
                have hr3 : ¬ 31 < fa := by omega
                go_wp2
                exact ⟨⟨0 + 1, by decide, by rfl, fun _ => ⟨hr0, hr1⟩, fun h => absurd h (by decide), fun h => absurd h (by decide)⟩, by decide⟩
              · have HD := Lib.hid (HBAD.out (fun h => hr h.1))
                by_cases hr0 : fa < 0
                · obtain ⟨q0, q1, q2, q3, q4⟩ : _ ∧ _ ∧ _ ∧ _ ∧ _ := ⟨HKW.out.cell 0, HKW.out.cell 1, HKW.out.cell 2, HKW.out.cell 3, HKW.out.cell 4⟩
                  obtain ⟨f0, f1, f2, f3, f4⟩ : _ ∧ _ ∧ _ ∧ _ ∧ _ := ⟨HKW.out.frozen 0, HKW.out.frozen 1, HKW.out.frozen 2, HKW.out.frozen 3, HKW.out.frozen 4⟩
                  go_wp2
                  obtain ⟨e0, e1, e2, e3, e4⟩ := three_five HKW.out (.int .i64 0) (.int .i64 0) (.int .i64 0) (.int .i64 0) (.int .i64 0)
                  exact bodyPost_ret (v := .tuple #[.agg #[.int .i64 0, .int .i64 0, .int .i64 0, .int .i64 0, .int .i64 0], .int .i64 11]) (by simp [results, Tryd.results19, go_sem, e0, e1, e2, e3, e4]) rfl ⟨by rw [HD.out], five_below HBW.out (Nat.le_refl _) _ _ _ _ _⟩
                · have hr1 : 31 < fa := by omega
                  obtain ⟨q0, q1, q2, q3, q4⟩ : _ ∧ _ ∧ _ ∧ _ ∧ _ := ⟨HKW.out.cell 0, HKW.out.cell 1, HKW.out.cell 2, HKW.out.cell 3, HKW.out.cell 4⟩
                  obtain ⟨f0, f1, f2, f3, f4⟩ : _ ∧ _ ∧ _ ∧ _ ∧ _ := ⟨HKW.out.frozen 0, HKW.out.frozen 1, HKW.out.frozen 2, HKW.out.frozen 3, HKW.out.frozen 4⟩
                  go_wp2
                  obtain ⟨e0, e1, e2, e3, e4⟩ := three_five HKW.out (.int .i64 0) (.int .i64 0) (.int .i64 0) (.int .i64 0) (.int .i64 0)
                  exact bodyPost_ret (v := .tuple #[.agg #[.int .i64 0, .int .i64 0, .int .i64 0, .int .i64 0, .int .i64 0], .int .i64 11]) (by simp [results, Tryd.results19, go_sem, e0, e1, e2, e3, e4]) rfl ⟨by rw [HD.out], five_below HBW.out (Nat.le_refl _) _ _ _ _ _⟩
            · by_cases hr : 0 ≤ fb ∧ fb ≤ 31
              · obtain ⟨hr0, hr1⟩ := hr
                have hr2 : ¬ fb < 0 := by omega
                have hr3 : ¬ 31 < fb := by omega
                go_wp2
                exact ⟨⟨1 + 1, by decide, by rfl, fun _ => ga (by decide), fun _ => ⟨hr0, hr1⟩, fun h => absurd h (by decide)⟩, by decide⟩
              · have HD := Lib.hid (HBAD.out (fun h => hr h.2.1))
                by_cases hr0 : fb < 0
                · obtain ⟨q0, q1, q2, q3, q4⟩ : _ ∧ _ ∧ _ ∧ _ ∧ _ := ⟨HKW.out.cell 0, HKW.out.cell 1, HKW.out.cell 2, HKW.out.cell 3, HKW.out.cell 4⟩
                  obtain ⟨f0, f1, f2, f3, f4⟩ : _ ∧ _ ∧ _ ∧ _ ∧ _ := ⟨HKW.out.frozen 0, HKW.out.frozen 1, HKW.out.frozen 2, HKW.out.frozen 3, HKW.out.frozen 4⟩
                  go_wp2
                  obtain ⟨e0, e1, e2, e3, e4⟩ := three_five HKW.out (.int .i64 0) (.int .i64 0) (.int .i64 0) (.int .i64 0) (.int .i64 0)
                  exact bodyPost_ret (v := .tuple #[.agg #[.int .i64 0, .int .i64 0, .int .i64 0, .int .i64 0, .int .i64 0], .int .i64 11]) (by simp [results, Tryd.results19, go_sem, e0, e1, e2, e3, e4]) rfl ⟨by rw [HD.out], five_below HBW.out (Nat.le_refl _) _ _ _ _ _⟩
                · have hr1 : 31 < fb := by omega
                  obtain ⟨q0, q1, q2, q3, q4⟩ : _ ∧ _ ∧ _ ∧ _ ∧ _ := ⟨HKW.out.cell 0, HKW.out.cell 1, HKW.out.cell 2, HKW.out.cell 3, HKW.out.cell 4⟩
                  obtain ⟨f0, f1, f2, f3, f4⟩ : _ ∧ _ ∧ _ ∧ _ ∧ _ := ⟨HKW.out.frozen 0, HKW.out.frozen 1, HKW.out.frozen 2, HKW.out.frozen 3, HKW.out.frozen 4⟩
                  go_wp2
                  obtain ⟨e0, e1, e2, e3, e4⟩ := three_five HKW.out (.int .i64 0) (.int .i64 0) (.int .i64 0) (.int .i64 0) (.int .i64 0)
                  exact bodyPost_ret (v := .tuple #[.agg #[.int .i64 0, .int .i64 0, .int .i64 0, .int .i64 0, .int .i64 0], .int .i64 11]) (by simp [results, Tryd.results19, go_sem, e0, e1, e2, e3, e4]) rfl ⟨by rw [HD.out], five_below HBW.out (Nat.le_refl _) _ _ _ _ _⟩
            · by_cases hr : 0 ≤ fc ∧ fc ≤ 31
              · obtain ⟨hr0, hr1⟩ := hr
                have hr2 : ¬ fc < 0 := by omega
                have hr3 : ¬ 31 < fc := by omega
                go_wp2
                exact ⟨⟨2 + 1, by decide, by rfl, fun _ => ga (by decide), fun _ => gb' (by decide), fun _ => ⟨hr0, hr1⟩⟩, by decide⟩
              · have HD := Lib.hid (HBAD.out (fun h => hr h.2.2))
                by_cases hr0 : fc < 0
                · obtain ⟨q0, q1, q2, q3, q4⟩ : _ ∧ _ ∧ _ ∧ _ ∧ _ := ⟨HKW.out.cell 0, HKW.out.cell 1, HKW.out.cell 2, HKW.out.cell 3, HKW.out.cell 4⟩
                  obtain ⟨f0, f1, f2, f3, f4⟩ : _ ∧ _ ∧ _ ∧ _ ∧ _ := ⟨HKW.out.frozen 0, HKW.out.frozen 1, HKW.out.frozen 2, HKW.out.frozen 3, HKW.out.frozen 4⟩
                  go_wp2
                  obtain ⟨e0, e1, e2, e3, e4⟩ := three_five HKW.out (.int .i64 0) (.int .i64 0) (.int .i64 0) (.int .i64 0) (.int .i64 0)
                  exact bodyPost_ret (v := .tuple #[.agg #[.int .i64 0, .int .i64 0, .int .i64 0, .int .i64 0, .int .i64 0], .int .i64 11]) (by simp [results, Tryd.results19, go_sem, e0, e1, e2, e3, e4]) rfl ⟨by rw [HD.out], five_below HBW.out (Nat.le_refl _) _ _ _ _ _⟩
                · have hr1 : 31 < fc := by omega
                  obtain ⟨q0, q1, q2, q3, q4⟩ : _ ∧ _ ∧ _ ∧ _ ∧ _ := ⟨HKW.out.cell 0, HKW.out.cell 1, HKW.out.cell 2, HKW.out.cell 3, HKW.out.cell 4⟩
                  obtain ⟨f0, f1, f2, f3, f4⟩ : _ ∧ _ ∧ _ ∧ _ ∧ _ := ⟨HKW.out.frozen 0, HKW.out.frozen 1, HKW.out.frozen 2, HKW.out.frozen 3, HKW.out.frozen 4⟩
                  go_wp2
                  obtain ⟨e0, e1, e2, e3, e4⟩ := three_five HKW.out (.int .i64 0) (.int .i64 0) (.int .i64 0) (.int .i64 0) (.int .i64 0)
                  exact bodyPost_ret (v := .tuple #[.agg #[.int .i64 0, .int .i64 0, .int .i64 0, .int .i64 0, .int .i64 0], .int .i64 11]) (by simp [results, Tryd.results19, go_sem, e0, e1, e2, e3, e4]) rfl ⟨by rw [HD.out], five_below HBW.out (Nat.le_refl _) _ _ _ _ _⟩
            · have ga := ga (by decide)
              have gb' := gb' (by decide)
              have gc := gc (by decide)
              have HBW2 := HBW
              clear HBW
              have hm9 := (fun w' => rmay_any ⟨op, fa, fb, fc, fm⟩ w' ⟨by simp only; omega, by simp only; omega, by simp only; omega, by simp only; omega, by simp only; omega⟩)
              simp only [In.val] at hm9
              have HM := Lib.hid hm9
              clear hm9
              obtain ⟨W1, hW1⟩ : ∃ W1, W1 = (w4.alloc (.cells #[.int .i64 0, .int .i64 0, .int .i64 0, .int .i64 0, .int .i64 0] 31)).drew := ⟨_, rfl⟩
              have HW1 := Lib.hid hW1
              have hB1 : Below w4.heap.size w4 W1 := by rw [hW1]; exact ((Below.refl _ _).alloc (Nat.le_refl _) _).drew
              have hK5 : Blk W1 w4.heap.size #[.int .i64 0, .int .i64 0, .int .i64 0, .int .i64 0, .int .i64 0] 31 := by rw [hW1]; exact (Blk.new w4 _ _).drew
              have HBW : Hid (∀ LL x, J2 14 15 w4.drew W1 (((((W1.setCell ⟨w4.heap.size, 0, none⟩ (.int .i64 op)).setCell ⟨w4.heap.size, 1, none⟩ (.int .i64 fa)).setCell ⟨w4.heap.size, 2, none⟩ (.int .i64 fb)).setCell ⟨w4.heap.size, 3, none⟩ (.int .i64 fc)).setCell ⟨w4.heap.size, 4, none⟩ (.int .i64 fm)) LL x → Below w4.heap.size w4 x) := Lib.hid (fun LL x h => h.all (p := fun x => Below w4.heap.size w4 x) (Below.refl _ _).drew hB1 (five_below hB1 (Nat.le_refl _) _ _ _ _ _))
              have HB5 := Lib.hid hB1
              have HK5 := Lib.hid hK5
              have HV0 := Lib.hid v0
              have HV1 := Lib.hid v1
              have HV2 := Lib.hid v2
              have HV3 := Lib.hid v3
              obtain ⟨z0, z1, z2, z3, z4⟩ : _ ∧ _ ∧ _ ∧ _ ∧ _ := ⟨hK5.cell 0, hK5.cell 1, hK5.cell 2, hK5.cell 3, hK5.cell 4⟩
              obtain ⟨x0, x1, x2, x3, x4⟩ : _ ∧ _ ∧ _ ∧ _ ∧ _ := ⟨hK5.frozen 0, hK5.frozen 1, hK5.frozen 2, hK5.frozen 3, hK5.frozen 4⟩
              clear hW1 hB1 hK5 v0 v1 v2 v3
              clear HBAD HVB HFK HOW
              go_wp2_with fail
              refine wp_region_run (by kernel_rfl) 104 rfl [78, 79, 80, 81, 82, 83, 84, 85, 86, 87, 88, 89, 90, 91, 12, 104] [.int .i64 op, .slice (some ⟨gv, 0, none⟩) 4 4, .pointer (some ⟨gv, 0, none⟩), .int .i64 fa, .slice (some ⟨gv, 0, none⟩) 4 4, .pointer (some ⟨gv, 1, none⟩), .int .i64 fb, .slice (some ⟨gv, 0, none⟩) 4 4, .pointer (some ⟨gv, 2, none⟩), .int .i64 fc, .slice (some ⟨gv, 0, none⟩) 4 4, .pointer (some ⟨gv, 3, none⟩), .int .i64 fm, .agg #[.int .i64 op, .int .i64 fa, .int .i64 fb, .int .i64 fc, .int .i64 fm], .pointer (some ⟨w4.heap.size, 0, none⟩), undef] (J2 14 15 (w4.drew) (W1) (((((W1.setCell ⟨w4.heap.size, 0, none⟩ (.int .i64 op)).setCell ⟨w4.heap.size, 1, none⟩ (.int .i64 fa)).setCell ⟨w4.heap.size, 2, none⟩ (.int .i64 fb)).setCell ⟨w4.heap.size, 3, none⟩ (.int .i64 fc)).setCell ⟨w4.heap.size, 4, none⟩ (.int .i64 fm))) ?hj (by kernel_rfl) ?start ?steps ?fin
              case hj => exact J2.congr (by decide) (by decide)
              case start => exact rfl
              case fin =>
                intro L w9 hJ hall
                have hw9 := hJ.done (hall 15 (by decide))
                subst hw9
                clear hJ hall
                simp only [putAll, List.set_cons_succ, List.set_cons_zero, Nat.reduceAdd, List.getD_cons_succ, List.getD_cons_zero]
                have hbY := HBW.out (fun _ => true) _ (by unfold J2; rfl)
                have hkY : Blk (((((W1.setCell ⟨w4.heap.size, 0, none⟩ (.int .i64 op)).setCell ⟨w4.heap.size, 1, none⟩ (.int .i64 fa)).setCell ⟨w4.heap.size, 2, none⟩ (.int .i64 fb)).setCell ⟨w4.heap.size, 3, none⟩ (.int .i64 fc)).setCell ⟨w4.heap.size, 4, none⟩ (.int .i64 fm)) w4.heap.size #[.int .i64 op, .int .i64 fa, .int .i64 fb, .int .i64 fc, .int .i64 fm] 31 := ((((HK5.out.set 0 _).set 1 _).set 2 _).set 3 _).set 4 _
                have hkZ := HKW.out.later hbY
                have hbZ := HBW2.out.trans (hbY.mono HBW2.out.size)
                generalize ((((W1.setCell ⟨w4.heap.size, 0, none⟩ (.int .i64 op)).setCell ⟨w4.heap.size, 1, none⟩ (.int .i64 fa)).setCell ⟨w4.heap.size, 2, none⟩ (.int .i64 fb)).setCell ⟨w4.heap.size, 3, none⟩ (.int .i64 fc)).setCell ⟨w4.heap.size, 4, none⟩ (.int .i64 fm) = Y at hbY hkY hkZ hbZ ⊢
                have HKY := Lib.hid hkY
                have HKZ := Lib.hid hkZ
                have HBZ := Lib.hid hbZ
                obtain ⟨q0, q1, q2, q3, q4⟩ : _ ∧ _ ∧ _ ∧ _ ∧ _ := ⟨hkY.cell 0, hkY.cell 1, hkY.cell 2, hkY.cell 3, hkY.cell 4⟩
                clear hbY hkY hkZ hbZ HBW HK5 HB5 HW1 z0 z1 z2 z3 z4 x0 x1 x2 x3 x4
                go_wp2_with fail
                refine (HM.out _).mono ?_
                rintro r w5 ⟨rfl, hb5⟩
                have hk5 := HKY.out.later hb5
                have HK6 := Lib.hid (HKZ.out.later hb5)
                have HB6 := Lib.hid (HBZ.out.trans (hb5.mono HBZ.out.size))
                obtain ⟨g0', g1', g2', g3', g4'⟩ : _ ∧ _ ∧ _ ∧ _ ∧ _ := ⟨hk5.cell 0, hk5.cell 1, hk5.cell 2, hk5.cell 3, hk5.cell 4⟩
                obtain ⟨my, hmy⟩ : ∃ my, mayI ⟨op, fa, fb, fc, fm⟩ = my := ⟨_, rfl⟩
                rw [hmy] at HF ⊢
                clear hb5 hk5 HM hmy q0 q1 q2 q3 q4
                by_cases htn : t = n
                · subst htn
                  cases my with
                  | false =>
                    have HD : Hid (V = .tuple #[.agg #[.int .i64 0, .int .i64 0, .int .i64 0, .int .i64 0, .int .i64 0], .int .i64 11]) := Lib.hid ((HP3.out (HF.out.trans (if_neg (fun h => by cases h.2)))).trans HE.out)
                    obtain ⟨q0, q1, q2, q3, q4⟩ : _ ∧ _ ∧ _ ∧ _ ∧ _ := ⟨HK6.out.cell 0, HK6.out.cell 1, HK6.out.cell 2, HK6.out.cell 3, HK6.out.cell 4⟩
                    obtain ⟨f0, f1, f2, f3, f4⟩ : _ ∧ _ ∧ _ ∧ _ ∧ _ := ⟨HK6.out.frozen 0, HK6.out.frozen 1, HK6.out.frozen 2, HK6.out.frozen 3, HK6.out.frozen 4⟩
                    go_wp2
                    obtain ⟨e0, e1, e2, e3, e4⟩ := three_five HK6.out (.int .i64 0) (.int .i64 0) (.int .i64 0) (.int .i64 0) (.int .i64 0)
                    exact bodyPost_ret (v := .tuple #[.agg #[.int .i64 0, .int .i64 0, .int .i64 0, .int .i64 0, .int .i64 0], .int .i64 11]) (by simp [results, Tryd.results19, go_sem, e0, e1, e2, e3, e4]) rfl ⟨by rw [HD.out], five_below HB6.out (Nat.le_refl _) _ _ _ _ _⟩
                  | true =>
                    have HD : Hid (V = .tuple #[.agg #[.int .i64 op, .int .i64 fa, .int .i64 fb, .int .i64 fc, .int .i64 fm], .int .i64 0]) := Lib.hid (HP4.out ⟨op, fa, fb, fc, fm⟩ (by rw [HN.out]; exact hn0) h0 (HF.out.trans (if_pos ⟨HN.out.symm, rfl⟩)))
                    obtain ⟨q0, q1, q2, q3, q4⟩ : _ ∧ _ ∧ _ ∧ _ ∧ _ := ⟨HK6.out.cell 0, HK6.out.cell 1, HK6.out.cell 2, HK6.out.cell 3, HK6.out.cell 4⟩
                    obtain ⟨f0, f1, f2, f3, f4⟩ : _ ∧ _ ∧ _ ∧ _ ∧ _ := ⟨HK6.out.frozen 0, HK6.out.frozen 1, HK6.out.frozen 2, HK6.out.frozen 3, HK6.out.frozen 4⟩
                    go_wp2
                    obtain ⟨e0, e1, e2, e3, e4⟩ := three_five HK6.out (.int .i64 op) (.int .i64 fa) (.int .i64 fb) (.int .i64 fc) (.int .i64 fm)
                    exact bodyPost_ret (v := .tuple #[.agg #[.int .i64 op, .int .i64 fa, .int .i64 fb, .int .i64 fc, .int .i64 fm], .int .i64 0]) (by simp [results, Tryd.results19, go_sem, e0, e1, e2, e3, e4]) rfl ⟨by rw [HD.out], five_below HB6.out (Nat.le_refl _) _ _ _ _ _⟩
                · have htb : ((t : Int) != n) = true := by rw [bne_iff_ne]; omega
                  have HD : Hid (V = .tuple #[.agg #[.int .i64 0, .int .i64 0, .int .i64 0, .int .i64 0, .int .i64 0], .int .i64 11]) := Lib.hid ((HP3.out (HF.out.trans (if_neg (fun h => htn (h.1.trans HN.out))))).trans HE.out)
                  obtain ⟨q0, q1, q2, q3, q4⟩ : _ ∧ _ ∧ _ ∧ _ ∧ _ := ⟨HK6.out.cell 0, HK6.out.cell 1, HK6.out.cell 2, HK6.out.cell 3, HK6.out.cell 4⟩
                  obtain ⟨f0, f1, f2, f3, f4⟩ : _ ∧ _ ∧ _ ∧ _ ∧ _ := ⟨HK6.out.frozen 0, HK6.out.frozen 1, HK6.out.frozen 2, HK6.out.frozen 3, HK6.out.frozen 4⟩
                  go_wp2
                  obtain ⟨e0, e1, e2, e3, e4⟩ := three_five HK6.out (.int .i64 0) (.int .i64 0) (.int .i64 0) (.int .i64 0) (.int .i64 0)
                  exact bodyPost_ret (v := .tuple #[.agg #[.int .i64 0, .int .i64 0, .int .i64 0, .int .i64 0, .int .i64 0], .int .i64 11]) (by simp [results, Tryd.results19, go_sem, e0, e1, e2, e3, e4]) rfl ⟨by rw [HD.out], five_below HB6.out (Nat.le_refl _) _ _ _ _ _⟩
              case steps =>
                refine ⟨?_, ?_, ?_, ?_, ?_, ?_, ?_, ?_, ?_, ?_, ?_, ?_, ?_, ?_, ?_, ?_, trivial⟩
                all_goals intro L y w9 hJ hL hy0 hp0 hcl hun
                all_goals have hy := Lib.hid hy0
                all_goals have hp := Lib.hid hp0
                all_goals have hb3 := Lib.hid (HBW.out _ _ hJ)
                all_goals clear hy0 hp0 hun
                · have e1 : y 5 = .int .i64 op := hy.out 5 (by decide)
                  have hJ3 := Lib.hid (hJ.pure (show (14 : Nat) ≠ 0 by decide) (show (15 : Nat) ≠ 0 by decide))
                  intro K Q hK
                  clear hcl hJ
                  have v1 := (eval_frame 104 y [] (t := 5) (by decide)).trans e1
                  obtain ⟨A, hA⟩ : ∃ A, (⟨frameOf 104 y, []⟩ : Act) = A := ⟨_, rfl⟩
                  rw [hA] at v1 hK ⊢
                  clear hA hy hp
                  simp only [Act.eval] at v1
                  go_simp
                  exact hK _ _ ⟨fun _ => rfl, hJ3.out⟩
                · have e1 : y 7 = .slice (some ⟨gv, 0, none⟩) 4 4 := hy.out 7 (by decide)
                  have hJ3 := Lib.hid (hJ.pure (show (14 : Nat) ≠ 1 by decide) (show (15 : Nat) ≠ 1 by decide))
                  intro K Q hK
                  clear hcl hJ
                  have v1 := (eval_frame 104 y [] (t := 7) (by decide)).trans e1
                  obtain ⟨A, hA⟩ : ∃ A, (⟨frameOf 104 y, []⟩ : Act) = A := ⟨_, rfl⟩
                  rw [hA] at v1 hK ⊢
                  clear hA hy hp
                  simp only [Act.eval] at v1
                  go_simp
                  exact hK _ _ ⟨fun _ => rfl, hJ3.out⟩
                · have e1 : y 79 = .slice (some ⟨gv, 0, none⟩) 4 4 := (hp.out 1 (by decide)).2 (by decide)
                  have hJ3 := Lib.hid (hJ.pure (show (14 : Nat) ≠ 2 by decide) (show (15 : Nat) ≠ 2 by decide))
                  intro K Q hK
                  clear hcl hJ
                  have v1 := (eval_frame 104 y [] (t := 79) (by decide)).trans e1
                  obtain ⟨A, hA⟩ : ∃ A, (⟨frameOf 104 y, []⟩ : Act) = A := ⟨_, rfl⟩
                  rw [hA] at v1 hK ⊢
                  clear hA hy hp
                  simp only [Act.eval] at v1
                  go_simp
                  exact hK _ _ ⟨fun _ => rfl, hJ3.out⟩
                · have e1 : y 80 = .pointer (some ⟨gv, 0, none⟩) := (hp.out 2 (by decide)).2 (by decide)
                  have hJ3 := Lib.hid (hJ.pure (show (14 : Nat) ≠ 3 by decide) (show (15 : Nat) ≠ 3 by decide))
                  intro K Q hK
                  clear hcl hJ
                  have v1 := (eval_frame 104 y [] (t := 80) (by decide)).trans e1
                  obtain ⟨A, hA⟩ : ∃ A, (⟨frameOf 104 y, []⟩ : Act) = A := ⟨_, rfl⟩
                  rw [hA] at v1 hK ⊢
                  clear hA hy hp
                  simp only [Act.eval] at v1
                  have hce := (hb3.out.cell (p := ⟨gv, 0, none⟩) hgl).trans HV0.out
                  go_simp
                  exact hK _ _ ⟨fun _ => rfl, hJ3.out⟩
                · have e1 : y 7 = .slice (some ⟨gv, 0, none⟩) 4 4 := hy.out 7 (by decide)
                  have hJ3 := Lib.hid (hJ.pure (show (14 : Nat) ≠ 4 by decide) (show (15 : Nat) ≠ 4 by decide))
                  intro K Q hK
                  clear hcl hJ
                  have v1 := (eval_frame 104 y [] (t := 7) (by decide)).trans e1
                  obtain ⟨A, hA⟩ : ∃ A, (⟨frameOf 104 y, []⟩ : Act) = A := ⟨_, rfl⟩
                  rw [hA] at v1 hK ⊢
                  clear hA hy hp
                  simp only [Act.eval] at v1
                  go_simp
                  exact hK _ _ ⟨fun _ => rfl, hJ3.out⟩
                · have e1 : y 82 = .slice (some ⟨gv, 0, none⟩) 4 4 := (hp.out 4 (by decide)).2 (by decide)
                  have hJ3 := Lib.hid (hJ.pure (show (14 : Nat) ≠ 5 by decide) (show (15 : Nat) ≠ 5 by decide))
                  intro K Q hK
                  clear hcl hJ
                  have v1 := (eval_frame 104 y [] (t := 82) (by decide)).trans e1
                  obtain ⟨A, hA⟩ : ∃ A, (⟨frameOf 104 y, []⟩ : Act) = A := ⟨_, rfl⟩
                  rw [hA] at v1 hK ⊢
                  clear hA hy hp
                  simp only [Act.eval] at v1
                  go_simp
                  exact hK _ _ ⟨fun _ => rfl, hJ3.out⟩
                · have e1 : y 83 = .pointer (some ⟨gv, 1, none⟩) := (hp.out 5 (by decide)).2 (by decide)
                  have hJ3 := Lib.hid (hJ.pure (show (14 : Nat) ≠ 6 by decide) (show (15 : Nat) ≠ 6 by decide))
                  intro K Q hK
                  clear hcl hJ
                  have v1 := (eval_frame 104 y [] (t := 83) (by decide)).trans e1
                  obtain ⟨A, hA⟩ : ∃ A, (⟨frameOf 104 y, []⟩ : Act) = A := ⟨_, rfl⟩
                  rw [hA] at v1 hK ⊢
                  clear hA hy hp
                  simp only [Act.eval] at v1
                  have hce := (hb3.out.cell (p := ⟨gv, 1, none⟩) hgl).trans HV1.out
                  go_simp
                  exact hK _ _ ⟨fun _ => rfl, hJ3.out⟩
                · have e1 : y 7 = .slice (some ⟨gv, 0, none⟩) 4 4 := hy.out 7 (by decide)
                  have hJ3 := Lib.hid (hJ.pure (show (14 : Nat) ≠ 7 by decide) (show (15 : Nat) ≠ 7 by decide))
                  intro K Q hK
                  clear hcl hJ
                  have v1 := (eval_frame 104 y [] (t := 7) (by decide)).trans e1
                  obtain ⟨A, hA⟩ : ∃ A, (⟨frameOf 104 y, []⟩ : Act) = A := ⟨_, rfl⟩
                  rw [hA] at v1 hK ⊢
                  clear hA hy hp
                  simp only [Act.eval] at v1
                  go_simp
                  exact hK _ _ ⟨fun _ => rfl, hJ3.out⟩
                · have e1 : y 85 = .slice (some ⟨gv, 0, none⟩) 4 4 := (hp.out 7 (by decide)).2 (by decide)
                  have hJ3 := Lib.hid (hJ.pure (show (14 : Nat) ≠ 8 by decide) (show (15 : Nat) ≠ 8 by decide))
                  intro K Q hK
                  clear hcl hJ
                  have v1 := (eval_frame 104 y [] (t := 85) (by decide)).trans e1
                  obtain ⟨A, hA⟩ : ∃ A, (⟨frameOf 104 y, []⟩ : Act) = A := ⟨_, rfl⟩
                  rw [hA] at v1 hK ⊢
                  clear hA hy hp
                  simp only [Act.eval] at v1
                  go_simp
                  exact hK _ _ ⟨fun _ => rfl, hJ3.out⟩
                · have e1 : y 86 = .pointer (some ⟨gv, 2, none⟩) := (hp.out 8 (by decide)).2 (by decide)
                  have hJ3 := Lib.hid (hJ.pure (show (14 : Nat) ≠ 9 by decide) (show (15 : Nat) ≠ 9 by decide))
                  intro K Q hK
                  clear hcl hJ
                  have v1 := (eval_frame 104 y [] (t := 86) (by decide)).trans e1
                  obtain ⟨A, hA⟩ : ∃ A, (⟨frameOf 104 y, []⟩ : Act) = A := ⟨_, rfl⟩
                  rw [hA] at v1 hK ⊢
                  clear hA hy hp
                  simp only [Act.eval] at v1
                  have hce := (hb3.out.cell (p := ⟨gv, 2, none⟩) hgl).trans HV2.out
                  go_simp
                  exact hK _ _ ⟨fun _ => rfl, hJ3.out⟩
                · have e1 : y 7 = .slice (some ⟨gv, 0, none⟩) 4 4 := hy.out 7 (by decide)
                  have hJ3 := Lib.hid (hJ.pure (show (14 : Nat) ≠ 10 by decide) (show (15 : Nat) ≠ 10 by decide))
                  intro K Q hK
                  clear hcl hJ
                  have v1 := (eval_frame 104 y [] (t := 7) (by decide)).trans e1
                  obtain ⟨A, hA⟩ : ∃ A, (⟨frameOf 104 y, []⟩ : Act) = A := ⟨_, rfl⟩
                  rw [hA] at v1 hK ⊢
                  clear hA hy hp
                  simp only [Act.eval] at v1
                  go_simp
                  exact hK _ _ ⟨fun _ => rfl, hJ3.out⟩
                · have e1 : y 88 = .slice (some ⟨gv, 0, none⟩) 4 4 := (hp.out 10 (by decide)).2 (by decide)
                  have hJ3 := Lib.hid (hJ.pure (show (14 : Nat) ≠ 11 by decide) (show (15 : Nat) ≠ 11 by decide))
                  intro K Q hK
                  clear hcl hJ
                  have v1 := (eval_frame 104 y [] (t := 88) (by decide)).trans e1
                  obtain ⟨A, hA⟩ : ∃ A, (⟨frameOf 104 y, []⟩ : Act) = A := ⟨_, rfl⟩
                  rw [hA] at v1 hK ⊢
                  clear hA hy hp
                  simp only [Act.eval] at v1
                  go_simp
                  exact hK _ _ ⟨fun _ => rfl, hJ3.out⟩
                · have e1 : y 89 = .pointer (some ⟨gv, 3, none⟩) := (hp.out 11 (by decide)).2 (by decide)
                  have hJ3 := Lib.hid (hJ.pure (show (14 : Nat) ≠ 12 by decide) (show (15 : Nat) ≠ 12 by decide))
                  intro K Q hK
                  clear hcl hJ
                  have v1 := (eval_frame 104 y [] (t := 89) (by decide)).trans e1
                  obtain ⟨A, hA⟩ : ∃ A, (⟨frameOf 104 y, []⟩ : Act) = A := ⟨_, rfl⟩
                  rw [hA] at v1 hK ⊢
                  clear hA hy hp
                  simp only [Act.eval] at v1
                  have hce := (hb3.out.cell (p := ⟨gv, 3, none⟩) hgl).trans HV3.out
                  go_simp
                  exact hK _ _ ⟨fun _ => rfl, hJ3.out⟩
                · have e1 : y 78 = .int .i64 op := (hp.out 0 (by decide)).2 (by decide)
                  have e2 : y 81 = .int .i64 fa := (hp.out 3 (by decide)).2 (by decide)
                  have e3 : y 84 = .int .i64 fb := (hp.out 6 (by decide)).2 (by decide)
                  have e4 : y 87 = .int .i64 fc := (hp.out 9 (by decide)).2 (by decide)
                  have e5 : y 90 = .int .i64 fm := (hp.out 12 (by decide)).2 (by decide)
                  have hJ3 := Lib.hid (hJ.pure (show (14 : Nat) ≠ 13 by decide) (show (15 : Nat) ≠ 13 by decide))
                  intro K Q hK
                  clear hcl hJ
                  have v1 := (eval_frame 104 y [] (t := 78) (by decide)).trans e1
                  have v2 := (eval_frame 104 y [] (t := 81) (by decide)).trans e2
                  have v3 := (eval_frame 104 y [] (t := 84) (by decide)).trans e3
                  have v4 := (eval_frame 104 y [] (t := 87) (by decide)).trans e4
                  have v5 := (eval_frame 104 y [] (t := 90) (by decide)).trans e5
                  obtain ⟨A, hA⟩ : ∃ A, (⟨frameOf 104 y, []⟩ : Act) = A := ⟨_, rfl⟩
                  rw [hA] at v1 v2 v3 v4 v5 hK ⊢
                  clear hA hy hp
                  simp only [Act.eval] at v1 v2 v3 v4 v5
                  rw [Array.getD_eq_getD_getElem?] at v1 v2 v3 v4 v5
                  go_simp
                  exact hK _ _ ⟨fun _ => rfl, hJ3.out⟩
                · obtain ⟨hw9, hJ3⟩ := hJ.first (by decide) hL (fun h => hcl 15 _ rfl h 14 (by decide))
                  have hJ3 := Lib.hid hJ3
                  intro K Q hK
                  clear hcl hJ
                  rw [hw9]
                  clear hw9 hb3
                  obtain ⟨A, hA⟩ : ∃ A, (⟨frameOf 104 y, []⟩ : Act) = A := ⟨_, rfl⟩
                  rw [hA] at hK ⊢
                  clear hA hy hp
                  go_simp
                  rw [← HW1.out]
                  exact hK _ _ ⟨fun _ => rfl, hJ3.out⟩
                · have e1 : y 12 = .pointer (some ⟨w4.heap.size, 0, none⟩) := (hp.out 14 (by decide)).2 (by decide)
                  have e2 : y 91 = .agg #[.int .i64 op, .int .i64 fa, .int .i64 fb, .int .i64 fc, .int .i64 fm] := (hp.out 13 (by decide)).2 (by decide)
                  obtain ⟨hw9, hJ3⟩ := hJ.second (by decide) hL (hp.out 14 (by decide)).1
                  have hJ3 := Lib.hid hJ3
                  intro K Q hK
                  clear hcl hJ
                  rw [hw9]
                  clear hw9 hb3
                  have v1 := (eval_frame 104 y [] (t := 12) (by decide)).trans e1
                  have v2 := (eval_frame 104 y [] (t := 91) (by decide)).trans e2
                  obtain ⟨A, hA⟩ : ∃ A, (⟨frameOf 104 y, []⟩ : Act) = A := ⟨_, rfl⟩
                  rw [hA] at v1 v2 hK ⊢
                  clear hA hy hp
                  simp only [Act.eval] at v1 v2
                  go_simp
                  exact hK undef _ ⟨fun h => absurd h (by decide), hJ3.out⟩
end Go.Proofs.YtjpbbonkmnbabaaDoor
