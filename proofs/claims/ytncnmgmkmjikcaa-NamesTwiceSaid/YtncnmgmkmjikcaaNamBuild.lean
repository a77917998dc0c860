/-
  What is proved here: Build of package names returns the table of the names and where each one stands, or the error that the document names; nothing that was there is written.
  Conditions: slices of at most a million names.
-/
import Derived.Test.YtncnmgmkmjikcaaNamMap
namespace Go.Proofs.Ytncnmgmkmjikcaa
open Go.RowKit Go.WideMaps Go.Maps
set_option linter.unusedVariables false

set_option maxHeartbeats 400000 in
theorem anyZero_no (B : Nat) (a : Option Addr) (len cap : Nat) (L : List ByteArray) (w : World) (hs : Strs w B a len L) (hl : (len : Int) ≤ 9223372036854775807) (hc : Clean L) :
    Calls Try.prog 18 #[.slice a len cap] w fun e w' => e = .returned (.bool false) ∧ w = w' := by
  have HS := Lib.hid hs
  have HC := Lib.hid hc
  clear hs hc
  go_enter Try.func18, Try.ntmps18
  go_wp2
  go_loop [7] (fun i => ∃ k : Nat, k ≤ len ∧ i = .int .i64 k) (fun i => len - (intOf i).toNat)
  case atStart => exact ⟨0, Nat.zero_le _, rfl⟩
  case round =>
    obtain ⟨k, hk, rfl⟩ := hrel
    by_cases hlt : k < len
    · obtain ⟨b, off, rfl, _, hcell⟩ := HS.out.2 (by omega)
      obtain ⟨s, hsn⟩ : ∃ s, s = L.getD k .empty := ⟨_, rfl⟩
      have hc := hcell k hlt
      rw [← hsn] at hc
      have HI : Hid (Lib.indexByte s.data.toList 0 = -1) := Lib.hid (by
        have := HC.out k (by have := HS.out.1; omega)
        rw [← bytesOf_bs, hsn]
        exact idx_none (bs_bd _) this)
      clear hcell hsn
      go_wp2_with (go_at_call 20; refine (sidx_any _ _ _ HI.out).mono ?_; rintro e w' ⟨rfl, rfl⟩)
      go_round
      case rel => exact ⟨k + 1, by omega, by go_num⟩
      case measure => simp [intOf]; omega
    · obtain rfl : k = len := by omega
      go_wp2
      go_ret
      exact ⟨rfl, rfl⟩
set_option maxHeartbeats 400000 in
theorem anyZero_yes (B : Nat) (a : Option Addr) (len cap : Nat) (L : List ByteArray) (w : World) (n m : Nat) (hs : Strs w B a len L) (hl : (len : Int) ≤ 9223372036854775807) (hn : n < len) (hc : ∀ i, i < n → NoZ (bs (nm L i))) (hm : FirstZ (bs (nm L n)) m) :
    Calls Try.prog 18 #[.slice a len cap] w fun e w' => e = .returned (.bool true) ∧ w = w' := by
  obtain ⟨b, off, rfl, _, hcell⟩ := hs.2 (by omega)
  have HC := Lib.hid hc
  have HL := Lib.hid hcell
  have HM := Lib.hid hm
  clear hs hc hcell hm
  go_enter Try.func18, Try.ntmps18
  go_wp2
  go_loop [7] (fun i => ∃ k : Nat, k ≤ n ∧ i = .int .i64 k) (fun i => len - (intOf i).toNat)
  case atStart => exact ⟨0, Nat.zero_le _, rfl⟩
  case round =>
    obtain ⟨k, hk, rfl⟩ := hrel
    have hkl : k < len := by omega
    obtain ⟨s, hsn⟩ : ∃ s, s = L.getD k .empty := ⟨_, rfl⟩
    have hc := HL.out k hkl
    rw [← hsn] at hc
    by_cases hlt : k < n
    · have HI : Hid (Lib.indexByte s.data.toList 0 = -1) := Lib.hid (by
        rw [← bytesOf_bs, hsn]
        exact idx_none (bs_bd _) (HC.out k hlt))
      clear hsn
      go_wp2_with (go_at_call 20; refine (sidx_any _ _ _ HI.out).mono ?_; rintro e w' ⟨rfl, rfl⟩)
      go_round
      case rel => exact ⟨k + 1, by omega, by go_num⟩
      case measure => simp [intOf]; omega
    · obtain rfl : k = n := by omega
      have HI : Hid (Lib.indexByte s.data.toList 0 = (m : Int)) := Lib.hid (by
        rw [← bytesOf_bs, hsn]
        exact idx_some (bs_bd _) HM.out)
      clear hsn
      go_wp2_with (go_at_call 20; refine (sidx_any _ _ _ HI.out).mono ?_; rintro e w' ⟨rfl, rfl⟩)
      go_ret
      exact ⟨rfl, rfl⟩

set_option maxHeartbeats 400000 in
theorem build_arg (B : Nat) (a : Option Addr) (len cap : Nat) (L : List ByteArray) (w : World) (n m : Nat) (hs : Strs w B a len L) (hl : (len : Int) ≤ 9223372036854775807) (hn : n < len) (hc : ∀ i, i < n → NoZ (bs (nm L i))) (hm : FirstZ (bs (nm L n)) m) :
    Calls Try.prog 15 #[.slice a len cap] w fun e w' => e = .returned (.tuple #[.slice none 0 0, .slice none 0 0, .int .i64 1]) ∧ w = w' := by
  have HC := Lib.hid hc
  have HS := Lib.hid hs
  have HM := Lib.hid hm
  clear hs hc hm
  go_enter Try.func15, Try.ntmps15
  go_wp2_with (go_at_call 18; refine (anyZero_yes _ _ _ _ _ _ _ _ HS.out hl hn HC.out HM.out).mono ?_; rintro e w' ⟨rfl, rfl⟩)
  go_ret3
  exact ⟨rfl, rfl⟩

/-- What Build makes of clean names. -/
def BuildPost (L : List ByteArray) (w : World) (e : Ending) (w' : World) : Prop :=
  Below w.heap.size w w' ∧
  ((65536 < (tab L L.length).length ∧ e = .returned (.tuple #[.slice none 0 0, .slice none 0 0, .int .i64 13])) ∨
   ((tab L L.length).length ≤ 65536 ∧ ∃ ta tc pa pc, e = .returned (.tuple #[.slice ta (tab L L.length).length tc, .slice pa L.length pc, .int .i64 0]) ∧
      w'.ownsRow w.heap.size 5 1 (.slice ta (tab L L.length).length tc) (tab L L.length).length ((tab L L.length).map (Value.int .u8)) ∧
      w'.ownsRow w.heap.size 23 1 (.slice pa L.length pc) L.length ((outs L L.length).map (Value.int .u64))))

theorem buildPost_ok {L : List ByteArray} {w w' : World} {k : Nat} {va ua : Option Addr} {vc uc : Nat} (hk : L.length = k) (hbel : Below w.heap.size w w') (ht : (tab L k).length ≤ 65536)
    (hv : w'.ownsRow w.heap.size 5 1 (.slice va (tab L k).length vc) (tab L k).length ((tab L k).map (Value.int .u8)))
    (hu : w'.ownsRow w.heap.size 23 1 (.slice ua k uc) k ((outs L k).map (Value.int .u64))) :
    BuildPost L w (.returned (.tuple #[.slice va (tab L k).length vc, .slice ua k uc, .int .i64 0])) w' := by
  subst hk
  exact ⟨hbel, .inr ⟨ht, va, vc, ua, uc, rfl, hv, hu⟩⟩

set_option maxRecDepth 100000 in
set_option maxHeartbeats 1600000 in
theorem build_any (B : Nat) (a : Option Addr) (len cap : Nat) (L : List ByteArray) (w : World) (hs : Strs w B a len L) (hB : B ≤ w.heap.size) (hl : len ≤ 1000000) (hsz : ∀ i, (nm L i).size ≤ maxLen) (hc : Clean L) :
    Calls Try.prog 15 #[.slice a len cap] w (BuildPost L w) := by
  obtain ⟨i0, hi, hz0, hz1, hz2⟩ := info_parts info_u8
  obtain ⟨i1, hj, hy0, hy1, hy2⟩ := info_parts info_u64
  have hli : (len : Int) ≤ 9223372036854775807 := by omega
  have HC := Lib.hid hc
  have HS := Lib.hid hs
  have HSZ := Lib.hid hsz
  have HI := Lib.hid hi
  have HZ0 := Lib.hid hz0
  have HZ1 := Lib.hid hz1
  have HZ2 := Lib.hid hz2
  have HJ := Lib.hid hj
  have HY0 := Lib.hid hy0
  have HY1 := Lib.hid hy1
  have HY2 := Lib.hid hy2
  clear hs hc hsz hi hz0 hz1 hz2 hj hy0 hy1 hy2
  have hmm := @run_makeMap Try.prog
  have HM0 : Hid (((w.alloc (.cells #[.int .u8 0] 5)).alloc (.map #[] 0)).ownsMap (H := Unit) Try.prog 9 (plainElem Try.prog 23) (w.heap.size + 1) 0 (.map [])) := Lib.hid (by
    have := World.ownsMap_made (H := Unit) (w.alloc (.cells #[.int .u8 0] 5)) Try.prog 9 (plainElem Try.prog 23)
    simpa using this)
  go_enter Try.func15, Try.ntmps15
  have HK0 : Hid (keyOf Try.prog 9 (.string ⟨#[]⟩) = some (key .empty)) := Lib.hid (key_of (s := .empty) (by decide))
  have HV0 : Hid (plainElem (H := Unit) Try.prog 23 (.int .u64 0) = some (u64d 0, [])) := Lib.hid (plainElem_int Try.underlying23 (by decide))
  have hM : 0 < maxLen := by unfold maxLen; omega
  go_wp2_with (first | (go_at_call 18; refine (anyZero_no _ _ _ _ _ _ HS.out hli HC.out).mono ?_; rintro e w' ⟨rfl, rfl⟩) | (refine wpList_insert_own _ rfl _ _ _ 38 rfl 9 23 law_str Try.underlying38 _ (w.heap.size + 1) 0 _ rfl HM0.out hM (.string ⟨#[]⟩) (.int .u64 0) (key .empty) rfl rfl HK0.out (u64d 0) [] HV0.out ?_))
  intro w1 hm1 hg1
  have hb1 : Below w.heap.size w w1 := (((Below.refl _ _).alloc (Nat.le_refl _) _).alloc (by simp) _).grown hg1 (by simp; omega) (fun k e => by injection e with e; omega)
  have ht1 : w1.ownsRow w.heap.size 5 1 (.slice (some ⟨w.heap.size, 0, none⟩) 1 1) 1 ((tab L 0).map (Value.int .u8)) :=
    ((own_alloc w w.heap.size 5 [.int .u8 0] (Nat.le_refl _) (by decide)).alloc _).kept hg1 (.inr (by simp [Value.ownBlock]))
  have HM1 := Lib.hid hm1
  have HT1 := Lib.hid ht1
  clear hm1 hg1 ht1
  go_wp2_with (at_make; refine wpList_make_own _ rfl _ _ 32 rfl w.heap.size 23 i1 (.int .u64 0) 1 Try.underlying32 HJ.out HY0.out HY1.out .i64 .i64 _ len rfl rfl rfl ?c1 ?c2 ?c3 ?_)
  case c1 => rw [HY2.out]; omega
  case c2 => unfold maxLen; omega
  case c3 => exact hb1.size
  intro w2 hu2 hg2
  have hb2 : Below w.heap.size w w2 := hb1.grown hg2 hb1.size (fun _ e => by cases e)
  have HT2 := Lib.hid (HT1.out.kept hg2 (.inr (by intro e; cases e)))
  have HM2 := Lib.hid (HM1.out.kept hg2 (by intro e; cases e))
  have HU2 := Lib.hid hu2
  clear hu2 hg2 HM1 HT1 hb1 HM0
  go_wp2
  go_loopw [5, 7, 22] (fun v u i wr => ∃ k : Nat, k ≤ len ∧ i = .int .i64 k ∧ wr.ownsRow w.heap.size 5 1 v (tab L k).length ((tab L k).map (Value.int .u8)) ∧
      wr.ownsRow w.heap.size 23 1 u k ((outs L k).map (Value.int .u64)) ∧ (tab L k).length ≤ 65536 ∧ (∃ D, wr.ownsMap Try.prog 9 (plainElem Try.prog 23) (w.heap.size + 1) (k + 1) D ∧ MapOk L k D) ∧ Below w.heap.size w wr) (fun _ _ i _ => len - (intOf i).toNat)
  case atStart => exact ⟨0, Nat.zero_le _, rfl, HT2.out, HU2.out, by simp [tab], ⟨_, HM2.out, mapOk_zero L⟩, hb2⟩
  case round =>
    obtain ⟨k, hk, rfl, hv, hu, ht, ⟨D, hm, hok⟩, hbel⟩ := hrel
    obtain ⟨va, vc, rfl⟩ := own_slice hv
    have HV := Lib.hid hv
    have HU := Lib.hid hu
    have HM := Lib.hid hm
    have HOK := Lib.hid hok
    have HT := Lib.hid ht
    clear hv hu hm hok ht
    by_cases hlt : k < len
    · obtain ⟨b, off, rfl, hbB, hcell⟩ := HS.out.2 (by omega)
      obtain ⟨s, hsn⟩ : ∃ s, s = nm L k := ⟨_, rfl⟩
      have hc : wr.cell? ⟨b, off + k, none⟩ = some (.string s) := by
        rw [hsn]; exact (hbel.cell (p := ⟨b, off + k, none⟩) (by show b < _; omega)).trans (hcell k hlt)
      have hssz : s.size ≤ maxLen := by rw [hsn]; exact HSZ.out k
      have HKEY := Lib.hid (key_of hssz)
      have hssi : (s.size : Int) ≤ 9223372036854775807 := by unfold maxLen at hssz; omega
      have HSN := Lib.hid hsn
      clear hcell hsn hssz
      cases hseen : seenB L k (nm L k) with
      | true =>
        have HSEEN := Lib.hid hseen
        have hhit : Maps.has D (key s) = true := by rw [HSN.out, (HOK.out.2 _).1]; exact hseen
        clear hseen
        go_wp2_with (first | (at_lookup; refine wpList_lookup_own_ok_int _ rfl _ _ 38 rfl 9 23 .u64 law_str Try.underlying38 Try.underlying23 (zero_u64 _) (w.heap.size + 1) (k + 1) D rfl HM.out _ _ rfl HKEY.out ?_; intro c hat hwc; rw [hhit]) | (at_builtin; refine wpList_append_own _ rfl _ _ 32 rfl w.heap.size 23 i1 (.int .u64 0) 1 8 Try.underlying32 HJ.out HY0.out HY1.out HY2.out rfl (by decide) _ k _ rfl (HU.out.alloc _) ⟨wr.heap.size, 0, none⟩ 1 1 [.int .u64 c] rfl rfl ?c1 ?c2 ?c3 ?c4 ?c5 ?_))
        case c1 => exact cell_one_new _ _ _
        case c2 => intro u hu; obtain rfl := List.mem_singleton.1 hu; rfl
        case c3 => unfold maxLen; omega
        case c4 => omega
        case c5 => have := hbel.size; simp; omega
        intro u' w3 hu3 hg3 hnil3
        have hcp : c = (pos L (k + 1) (nm L k) : Int) := by
          have h1 := (HOK.out.2 s).2 (HSN.out ▸ (seenB_iff _ _ _).1 HSEEN.out)
          have h2 := u64d_inj (h1.symm.trans hat)
          rw [h2, HSN.out, pos_stay (m := k + 1) ((seenB_iff _ _ _).1 HSEEN.out) (by omega)]
        have HU3 : Hid (w3.ownsRow w.heap.size 23 1 u' (k + 1) ((outs L (k + 1)).map (Value.int .u64))) := Lib.hid (by
          rw [outs, List.map_append, ← hcp]; exact hu3)
        have HV3 : Hid (w3.ownsRow w.heap.size 5 1 (.slice va (tab L (k + 1)).length vc) (tab L (k + 1)).length ((tab L (k + 1)).map (Value.int .u8))) := Lib.hid (by
          rw [tab_seen HSEEN.out]
          exact (HV.out.alloc _).kept hg3 (own_apart HV.out HU.out (by decide)))
        have HM3 := Lib.hid ((HM.out.alloc (.cells #[.int .u64 c] 23)).kept hg3 (fun e => map_apart HU.out HM.out e.symm))
        have hb3 : Below w.heap.size w w3 := (hbel.alloc hbel.size _).grown hg3 (by have := hbel.size; simp; omega) (fun q e => (HU.out.lt q e).1)
        have HTL : Hid ((tab L k).length = (tab L (k + 1)).length) := Lib.hid (by rw [tab_seen HSEEN.out])
        clear hcp hu3 hg3 hnil3 hat hwc hhit
        go_wp2
        go_roundw
        case rel => exact ⟨k + 1, by omega, by go_num, by rw [HTL.out]; exact HV3.out, HU3.out, by rw [← HTL.out]; exact HT.out, ⟨D, HM3.out.mono (by omega), mapOk_seen HOK.out HSEEN.out⟩, hb3⟩
        case measure => simp [intOf]; omega
      | false =>
        have HSEEN := Lib.hid hseen
        have hmiss : Maps.has D (key s) = false := by rw [HSN.out, (HOK.out.2 _).1]; exact hseen
        have HTN := Lib.hid (tab_new hseen)
        have HLN : Hid ((tab L (k + 1)).length = (tab L k).length + s.size + 1) := Lib.hid (by
          rw [HTN.out, List.length_append, List.length_append, bs_len, HSN.out]; rfl)
        have hT := HT.out
        clear hseen
        by_cases hov : 65536 ≤ (tab L k).length + s.size
        · have hovi : (65536 : Int) - ((tab L k).length : Int) ≤ (s.size : Int) := by omega
          have hlong : Hid (65536 < (tab L L.length).length) := Lib.hid (by
            have h1 := tab_mono L (k := k + 1) (m := L.length) (by have := HS.out.1; omega)
            have := HLN.out
            omega)
          clear hov
          go_wp2_with (at_lookup; refine wpList_lookup_own_ok_int _ rfl _ _ 38 rfl 9 23 .u64 law_str Try.underlying38 Try.underlying23 (zero_u64 _) (w.heap.size + 1) (k + 1) D rfl HM.out _ _ rfl HKEY.out ?_; intro c hat hwc; rw [hmiss])
          go_ret3
          exact ⟨hbel, .inl ⟨hlong.out, rfl⟩⟩
        · have hovi : (s.size : Int) < (65536 : Int) - ((tab L k).length : Int) := by omega
          have HVAL : Hid (plainElem (H := Unit) Try.prog 23 (.int .u64 ((tab L k).length : Int)) = some (u64d (tab L k).length, [])) := Lib.hid (plainElem_int Try.underlying23 (wf_u64 hT))
          have hkm : k + 1 < maxLen := by unfold maxLen; omega
          go_wp2_with (first | (at_lookup; refine wpList_lookup_own_ok_int _ rfl _ _ 38 rfl 9 23 .u64 law_str Try.underlying38 Try.underlying23 (zero_u64 _) (w.heap.size + 1) (k + 1) D rfl HM.out _ _ rfl HKEY.out ?_; intro c hat hwc; rw [hmiss]) | (at_mapUpdate; refine wpList_mapUpdate_own _ rfl _ _ _ 38 rfl 9 23 law_str Try.underlying38 _ (w.heap.size + 1) (k + 1) D rfl HM.out hkm _ _ _ rfl rfl HKEY.out _ [] HVAL.out ?_))
          intro w3 hm3 hg3
          have hb3 : Below w.heap.size w w3 := hbel.grown hg3 hbel.size (fun q e => by injection e with e; omega)
          have HM3 := Lib.hid hm3
          have HV3 := Lib.hid (HV.out.kept hg3 (.inr (map_apart HV.out HM.out)))
          have HU3 := Lib.hid (HU.out.kept hg3 (.inr (map_apart HU.out HM.out)))
          clear hm3 hg3 hat hwc hmiss hkm HVAL
          go_wp2_with (at_builtin; refine Lib.wpList_append_own_string _ rfl _ _ 22 9 rfl w.heap.size 5 i0 Try.underlying22 Try.underlying9 HI.out HZ0.out HZ1.out HZ2.out _ (tab L k).length _ rfl HV3.out s rfl ?c1 ?c2 ?c3 ?_)
          case c1 => unfold maxLen; omega
          case c2 => omega
          case c3 => exact hb3.size
          intro v4 w4 hv4 hg4 hnil4
          rw [bs_cells, ← List.map_append] at hv4
          have hb4 : Below w.heap.size w w4 := hb3.grown hg4 hb3.size (fun q e => (HV3.out.lt q e).1)
          have HV4 := Lib.hid hv4
          have HU4 := Lib.hid (HU3.out.kept hg4 (own_apart HU3.out HV3.out (by decide)))
          have HM4 := Lib.hid (HM3.out.kept hg4 (fun e => map_apart HV3.out HM3.out e.symm))
          obtain ⟨va4, vc4, rfl⟩ := own_slice hv4
          clear hv4 hg4 hnil4
          go_wp2_with (at_builtin; refine wpList_append_own _ rfl _ _ 22 rfl w.heap.size 5 i0 (.int .u8 0) 1 1 Try.underlying22 HI.out HZ0.out HZ1.out HZ2.out rfl (by decide) _ ((tab L k).length + s.size) _ rfl (HV4.out.alloc _) ⟨w4.heap.size, 0, none⟩ 1 1 [.int .u8 0] rfl rfl ?d1 ?d2 ?d3 ?d4 ?d5 ?_)
          case d1 => exact cell_one_new _ _ _
          case d2 => intro u hu; obtain rfl := List.mem_singleton.1 hu; rfl
          case d3 => unfold maxLen; omega
          case d4 => omega
          case d5 => have := hb4.size; simp; omega
          intro v5 w5 hv5 hg5 hnil5
          have hb5 : Below w.heap.size w w5 := (hb4.alloc hb4.size _).grown hg5 (by have := hb4.size; simp; omega) (fun q e => (HV4.out.lt q e).1)
          have HV5 : Hid (w5.ownsRow w.heap.size 5 1 v5 (tab L (k + 1)).length ((tab L (k + 1)).map (Value.int .u8))) := Lib.hid (by
            rw [HLN.out, HTN.out, ← HSN.out, List.map_append, List.map_append]; exact hv5)
          have HU5 := Lib.hid ((HU4.out.alloc (.cells #[.int .u8 0] 5)).kept hg5 (own_apart HU4.out HV4.out (by decide)))
          have HM5 := Lib.hid ((HM4.out.alloc (.cells #[.int .u8 0] 5)).kept hg5 (fun e => map_apart HV4.out HM4.out e.symm))
          clear hv5 hg5 hnil5
          go_wp2_with (at_builtin; refine wpList_append_own _ rfl _ _ 32 rfl w.heap.size 23 i1 (.int .u64 0) 1 8 Try.underlying32 HJ.out HY0.out HY1.out HY2.out rfl (by decide) _ k _ rfl (HU5.out.alloc _) ⟨w5.heap.size, 0, none⟩ 1 1 [.int .u64 ((tab L k).length : Int)] rfl rfl ?e1 ?e2 ?e3 ?e4 ?e5 ?_)
          case e1 => exact cell_one_new _ _ _
          case e2 => intro u hu; obtain rfl := List.mem_singleton.1 hu; rfl
          case e3 => unfold maxLen; omega
          case e4 => omega
          case e5 => have := hb5.size; simp; omega
          intro u6 w6 hu6 hg6 hnil6
          have hb6 : Below w.heap.size w w6 := (hb5.alloc hb5.size _).grown hg6 (by have := hb5.size; simp; omega) (fun q e => (HU5.out.lt q e).1)
          have HU6 : Hid (w6.ownsRow w.heap.size 23 1 u6 (k + 1) ((outs L (k + 1)).map (Value.int .u64))) := Lib.hid (by
            rw [outs, List.map_append, pos_new HSEEN.out]; exact hu6)
          have HV6 := Lib.hid ((HV5.out.alloc (.cells #[.int .u64 ((tab L k).length : Int)] 23)).kept hg6 (own_apart HV5.out HU5.out (by decide)))
          have HM6 := Lib.hid ((HM5.out.alloc (.cells #[.int .u64 ((tab L k).length : Int)] 23)).kept hg6 (fun e => map_apart HU5.out HM5.out e.symm))
          have HT6 : Hid ((tab L (k + 1)).length ≤ 65536) := Lib.hid (by rw [HLN.out]; omega)
          clear hu6 hg6 hnil6
          go_wp2
          go_roundw
          case rel => exact ⟨k + 1, by omega, by go_num, HV6.out, HU6.out, HT6.out, ⟨_, by rw [← HSN.out] at *; exact HM6.out, by rw [HSN.out]; exact mapOk_new HOK.out HSEEN.out⟩, hb6⟩
          case measure => simp [intOf]; omega
    · obtain rfl : k = len := by omega
      obtain ⟨ua, uc, rfl⟩ := own_slice HU.out
      have HLL : Hid (L.length = k) := Lib.hid HS.out.1
      go_wp2
      go_ret3
      exact buildPost_ok HLL.out hbel HT.out HV.out HU.out
end Go.Proofs.Ytncnmgmkmjikcaa
