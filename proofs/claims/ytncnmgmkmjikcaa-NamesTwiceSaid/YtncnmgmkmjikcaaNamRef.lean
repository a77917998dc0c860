/-
  What is proved here: Build of the reference returns the table of the names and where each one stands, or the error that the document names; nothing that was there is written.
  Conditions: slices of at most a million names, of at most a million bytes each.
-/
import Derived.Test.YtncnmgmkmjikcaaNamBuild
namespace Go.Proofs.Ytncnmgmkmjikcaa
open Go.RowKit Go.WideMaps Go.Maps
set_option linter.unusedVariables false

/-- A byte of a string, as the walk reads it. -/
theorem byte_ne {s : ByteArray} {j : Nat} (h : j < s.size) (hz : (bs s).getD j 0 ≠ 0) : ((s[j]'h).toNat : Int) ≠ 0 := by
  rw [bs_getElem h] at hz; exact hz
theorem byte_eq {s : ByteArray} {j : Nat} (h : j < s.size) (hz : (bs s).getD j 0 = 0) : ((s[j]'h).toNat : Int) = 0 := by
  rw [bs_getElem h] at hz; exact hz

set_option maxRecDepth 100000 in
set_option maxHeartbeats 800000 in
theorem rbuild_arg (B : Nat) (a : Option Addr) (len cap : Nat) (L : List ByteArray) (w : World) (n m : Nat) (hs : Strs w B a len L) (hl : (len : Int) ≤ 9223372036854775807) (hsz : ∀ i, (nm L i).size ≤ maxLen) (hn : n < len) (hc : ∀ i, i < n → NoZ (bs (nm L i))) (hm : FirstZ (bs (nm L n)) m) :
    Calls Try.prog 16 #[.slice a len cap] w fun e w' => e = .returned (.tuple #[.slice none 0 0, .slice none 0 0, .int .i64 1]) ∧ w = w' := by
  obtain ⟨b, off, rfl, _, hcell⟩ := hs.2 (by omega)
  have HC := Lib.hid hc
  have HL := Lib.hid hcell
  have HM := Lib.hid hm
  have HSZ := Lib.hid hsz
  clear hs hc hcell hm hsz
  go_enter Try.func16, Try.ntmps16
  go_wp2
  go_loop [6] (fun i => ∃ k : Nat, k ≤ n ∧ i = .int .i64 k) (fun i => len - (intOf i).toNat)
  case atStart => exact ⟨0, Nat.zero_le _, rfl⟩
  case round =>
    obtain ⟨k, hk, rfl⟩ := hrel
    have hkl : k < len := by omega
    obtain ⟨s, hsn⟩ : ∃ s, s = nm L k := ⟨_, rfl⟩
    have hc : w.cell? ⟨b, off + k, none⟩ = some (.string s) := hsn ▸ HL.out k hkl
    have hss : (s.size : Int) ≤ 9223372036854775807 := by have := HSZ.out k; rw [hsn]; unfold maxLen at this; omega
    by_cases hlt : k < n
    · have HNZ : Hid (NoZ (bs s)) := Lib.hid (hsn ▸ HC.out k hlt)
      clear hsn
      go_wp2
      go_loop [7] (fun i => ∃ j : Nat, j ≤ s.size ∧ i = .int .i64 j) (fun i => s.size - (intOf i).toNat)
      case atStart => exact ⟨0, Nat.zero_le _, rfl⟩
      case round =>
        obtain ⟨j, hj, rfl⟩ := hrel
        by_cases hjs : j < s.size
        · have hne := byte_ne hjs (HNZ.out j (by rw [bs_len]; exact hjs))
          go_wp2
          go_round
          case rel => exact ⟨j + 1, by omega, by go_num⟩
          case measure => simp [intOf]; omega
        · obtain rfl : j = s.size := by omega
          go_wp2
          go_round
          case rel => exact ⟨k + 1, by omega, by go_num⟩
          case measure => simp [intOf]; omega
    · obtain rfl : k = n := by omega
      have HFZ : Hid (FirstZ (bs s) m) := Lib.hid (hsn ▸ HM.out)
      have hms : m < s.size := by have := HFZ.out.1; rwa [bs_len] at this
      clear hsn
      go_wp2
      go_loop [7] (fun i => ∃ j : Nat, j ≤ m ∧ i = .int .i64 j) (fun i => s.size - (intOf i).toNat)
      case atStart => exact ⟨0, Nat.zero_le _, rfl⟩
      case round =>
        obtain ⟨j, hj, rfl⟩ := hrel
        have hjs : j < s.size := by omega
        by_cases hjm : j < m
        · have hne := byte_ne hjs (HFZ.out.2.2 j hjm)
          go_wp2
          go_round
          case rel => exact ⟨j + 1, by omega, by go_num⟩
          case measure => simp [intOf]; omega
        · obtain rfl : j = m := by omega
          have heq := byte_eq hjs HFZ.out.2.1
          go_wp2
          go_ret3
          exact ⟨rfl, rfl⟩

theorem getElem_map_u64 {zs : List Int} {i : Nat} (h : i < zs.length) : (zs.map (Value.int .u64))[i]? = some (.int .u64 (zs.getD i 0)) := by
  rw [List.getElem?_map, List.getElem?_eq_getElem h, List.getD_eq_getElem?_getD, List.getElem?_eq_getElem h]; rfl
theorem toList_inj {s t : ByteArray} (h : s.toList = t.toList) : s = t := by
  rw [Lib.toList_data, Lib.toList_data] at h
  exact ByteArray.ext (Array.ext' h)
theorem toList_ne {s t : ByteArray} (h : s ≠ t) : (s.toList == t.toList) = false := by
  rw [beq_eq_false_iff_ne]
  exact fun e => h (toList_inj e)
theorem toList_empty : ByteArray.empty.toList = [] := by rw [Lib.toList_data]; rfl
theorem toList_full {s : ByteArray} (h : s ≠ .empty) : s.toList.isEmpty = false := by
  rw [List.isEmpty_eq_false_iff]
  exact fun e => h (toList_inj (by rw [e, toList_empty]))

set_option maxRecDepth 100000 in
set_option maxHeartbeats 3200000 in
theorem rbuild_any (B : Nat) (a : Option Addr) (len cap : Nat) (L : List ByteArray) (w : World) (hs : Strs w B a len L) (hB : B ≤ w.heap.size) (hl : len ≤ 1000000) (hsz : ∀ i, (nm L i).size ≤ 1000000) (hc : Clean L) :
    Calls Try.prog 16 #[.slice a len cap] w (BuildPost L w) := by
  obtain ⟨i0, hi, hz0, hz1, hz2⟩ := info_parts info_u8
  obtain ⟨i1, hj, hy0, hy1, hy2⟩ := info_parts info_u64
  have hli : (len : Int) ≤ 1000000 := by omega
  have HC := Lib.hid hc
  have HS := Lib.hid hs
  have HSZ := Lib.hid hsz
  have HI := Lib.hid hi
  have HZ0 := Lib.hid hz0
  have HZ1 := Lib.hid hz1
  have HZ2 := Lib.hid hz2
  have HJ := Lib.hid hj
  have HY0 := Lib.hid hy0
  have HY1 := Lib.hid hy1
  have HY2 := Lib.hid hy2
  have HLEN := Lib.hid hs.1
  have HTS : Hid (∀ k, k ≤ 1000000 → (tab L k).length ≤ 1000002000001) := Lib.hid (fun k hk => by
    have := size_tab L 1000000 hsz k
    have h2 : k * (1000000 + 1) ≤ 1000000 * (1000000 + 1) := Nat.mul_le_mul_right _ hk
    omega)
  clear hs hc hsz hi hz0 hz1 hz2 hj hy0 hy1 hy2
  go_enter Try.func16, Try.ntmps16
  go_wp2
  go_loop [6] (fun i => ∃ k : Nat, k ≤ len ∧ i = .int .i64 k) (fun i => len - (intOf i).toNat)
  case atStart => exact ⟨0, Nat.zero_le _, rfl⟩
  case round =>
    obtain ⟨k, hk, rfl⟩ := hrel
    by_cases hlt : k < len
    · obtain ⟨b, off, rfl, hbB, hcell⟩ := HS.out.2 (by omega)
      obtain ⟨s, hsn⟩ : ∃ s, s = nm L k := ⟨_, rfl⟩
      have hc : w.cell? ⟨b, off + k, none⟩ = some (.string s) := hsn ▸ hcell k hlt
      have hss : (s.size : Int) ≤ 1000000 := by have := HSZ.out k; rw [hsn]; omega
      have HNZ : Hid (NoZ (bs s)) := Lib.hid (hsn ▸ HC.out k (by rw [HLEN.out]; exact hlt))
      clear hsn hcell
      go_wp2
      go_loop [7] (fun i => ∃ j : Nat, j ≤ s.size ∧ i = .int .i64 j) (fun i => s.size - (intOf i).toNat)
      case atStart => exact ⟨0, Nat.zero_le _, rfl⟩
      case round =>
        obtain ⟨j, hj, rfl⟩ := hrel
        by_cases hjs : j < s.size
        · have hne := byte_ne hjs (HNZ.out j (by rw [bs_len]; exact hjs))
          go_wp2
          go_round
          case rel => exact ⟨j + 1, by omega, by go_num⟩
          case measure => simp [intOf]; omega
        · obtain rfl : j = s.size := by omega
          go_wp2
          go_round
          case rel => exact ⟨k + 1, by omega, by go_num⟩
          case measure => simp [intOf]; omega
    · obtain rfl : k = len := by omega
      have hv0 : (w.alloc (.cells #[.int .u8 0] 5)).ownsRow w.heap.size 5 1 (.slice (some ⟨w.heap.size, 0, none⟩) 1 1) 1 ((tab L 0).map (Value.int .u8)) :=
        own_alloc w w.heap.size 5 [.int .u8 0] (Nat.le_refl _) (by decide)
      have HV0 := Lib.hid hv0
      have hb0 : Below w.heap.size w (w.alloc (.cells #[.int .u8 0] 5)) := (Below.refl _ _).alloc (Nat.le_refl _) _
      clear hv0 hlt
      go_wp2
      go_loopw [5, 8, 9, 10] (fun z v u i wr => ∃ q : Nat, q ≤ k ∧ i = .int .i64 q ∧ z = .int .i64 (tab L q).length ∧ wr.ownsRow w.heap.size 5 1 v (tab L q).length ((tab L q).map (Value.int .u8)) ∧
        wr.ownsRow w.heap.size 23 1 u q ((outs L q).map (Value.int .u64)) ∧ Below w.heap.size w wr) (fun _ _ _ i _ => k - (intOf i).toNat)
      case atStart => exact ⟨0, Nat.zero_le _, rfl, rfl, HV0.out, World.ownsRow_nil _ _ _ _, hb0⟩
      case round =>
        obtain ⟨q, hq, rfl, rfl, hv, hu, hbel⟩ := hrel
        obtain ⟨va, vc, rfl⟩ := own_slice hv
        obtain ⟨ua, uc, rfl⟩ := own_slice hu
        have HV := Lib.hid hv
        have HU := Lib.hid hu
        clear hv hu hb0 HV0
        have htq := HTS.out q (by omega)
        by_cases hlt : q < k
        · obtain ⟨b, off, rfl, hbB, hcell⟩ := HS.out.2 (by omega)
          obtain ⟨s, hsn⟩ : ∃ s, s = nm L q := ⟨_, rfl⟩
          have hc : wr.cell? ⟨b, off + q, none⟩ = some (.string s) := by
            rw [hsn]; exact (hbel.cell (p := ⟨b, off + q, none⟩) (by show b < _; omega)).trans (hcell q hlt)
          have HCL := Lib.hid hcell
          have HSN := Lib.hid hsn
          clear hcell hsn
          by_cases hse : s = .empty
          · have hse1 : s.toList = [] := by rw [hse]; exact toList_empty
            have HSE := Lib.hid hse
            have HSEEN : Hid (seenB L q (nm L q) = true) := Lib.hid ((seenB_iff _ _ _).2 (.inl (HSN.out ▸ hse)))
            clear hse
            go_wp2_with (at_builtin; refine wpList_append_own _ rfl _ _ 32 rfl w.heap.size 23 i1 (.int .u64 0) 1 8 Try.underlying32 HJ.out HY0.out HY1.out HY2.out rfl (by decide) _ q _ rfl (HU.out.alloc _) _ 1 1 [.int .u64 0] rfl rfl ?c1 ?c2 ?c3 ?c4 ?c5 ?_)
            case c1 => exact cell_one_new _ _ _
            case c2 => intro u hu; obtain rfl := List.mem_singleton.1 hu; rfl
            case c3 => unfold maxLen; omega
            case c4 => omega
            case c5 => have := hbel.size; simp; omega
            intro u' w3 hu3 hg3 hnil3
            have HU3 : Hid (w3.ownsRow w.heap.size 23 1 u' (q + 1) ((outs L (q + 1)).map (Value.int .u64))) := Lib.hid (by
              rw [outs, List.map_append, ← HSN.out, HSE.out, pos_empty]; exact hu3)
            have HV3 := Lib.hid ((HV.out.alloc (.cells #[.int .u64 0] 23)).kept hg3 (own_apart HV.out HU.out (by decide)))
            have hb3 : Below w.heap.size w w3 := (hbel.alloc hbel.size _).grown hg3 (by have := hbel.size; simp; omega) (fun q e => (HU.out.lt q e).1)
            have HT3 := Lib.hid (tab_seen HSEEN.out)
            clear hu3 hg3 hnil3
            go_wp2
            go_roundw
            case rel => exact ⟨q + 1, by omega, by go_num, by rw [HT3.out], by rw [HT3.out]; exact HV3.out, HU3.out, hb3⟩
            case measure => simp [intOf]; omega
          · have hse1 := toList_full hse
            have HSE := Lib.hid hse
            have htqi : ((tab L q).length : Int) ≤ 1000002000001 := by omega
            clear hse
            cases hseen : seenB L q (nm L q) with
            | true =>
              have HSEEN := Lib.hid hseen
              obtain ⟨f, hf⟩ : ∃ f, f = firstAt L s q := ⟨_, rfl⟩
              have hfq : f < q := by
                have h1 : s ≠ .empty := HSE.out
                have h2 := hseen
                unfold seenB at h2
                rw [← HSN.out] at h2
                simp only [h1, decide_false, Bool.false_or, decide_eq_true_eq] at h2
                omega
              have HFH : Hid (nm L f = s ∧ ∀ i, i < f → nm L i ≠ s) := Lib.hid (by rw [hf]; exact firstAt_hit (hf ▸ hfq))
              obtain ⟨P, hP⟩ : ∃ P, P = pos L q s := ⟨_, rfl⟩
              have hPT : P < (tab L q).length := by rw [hP, HSN.out]; exact pos_lt ((seenB_iff _ _ _).1 hseen)
              have HP := Lib.hid hP
              have hne2 : ((P : Int) == ((tab L q).length : Int)) = false := by rw [beq_eq_false_iff_ne]; omega
              have hPi : (P : Int) < ((tab L q).length : Int) := by omega
              clear hseen hf hP
              obtain ⟨wo, rfl⟩ : ∃ wo : World, wo = wr := ⟨_, rfl⟩
              go_wp2
              go_loopw [12] (fun i wx => ∃ j : Nat, j ≤ f ∧ i = .int .i64 j ∧ wx.ownsRow w.heap.size 5 1 (.slice va (tab L q).length vc) (tab L q).length ((tab L q).map (Value.int .u8)) ∧
                wx.ownsRow w.heap.size 23 1 (.slice ua q uc) q ((outs L q).map (Value.int .u64)) ∧ Below w.heap.size w wx) (fun i _ => q - (intOf i).toNat)
              case atStart => exact ⟨0, Nat.zero_le _, rfl, HV.out, HU.out, hbel⟩
              case round =>
                obtain ⟨j, hj, rfl, hvx, hux, hbx⟩ := hrel
                have HVX := Lib.hid hvx
                have HUX := Lib.hid hux
                have HBX := Lib.hid hbx
                have hcx : ∀ i, i < k → wr.cell? ⟨b, off + i, none⟩ = some (.string (nm L i)) := fun i hi =>
                  (hbx.cell (p := ⟨b, off + i, none⟩) (by show b < _; omega)).trans (HCL.out i hi)
                have hcq := hcx q hlt
                have hcj := hcx j (by omega)
                rw [← HSN.out] at hcq
                obtain ⟨t, ht⟩ : ∃ t, t = nm L j := ⟨_, rfl⟩
                rw [← ht] at hcj
                have hjq : j < q := by omega
                have hjl : (j : Int) < (k : Int) := by omega
                clear hvx hbx hcx
                by_cases hjf : j < f
                · have hts : (t.toList == s.toList) = false := toList_ne (ht ▸ HFH.out.2 j hjf)
                  clear hux ht
                  go_wp2_with fail
                  go_quiet (fail)
                  go_wp2
                  go_roundw
                  case rel => exact ⟨j + 1, by omega, by go_num, own_drewN HVX.out _, own_drewN HUX.out _, below_drewN HBX.out _⟩
                  case measure => simp [intOf]; omega
                · obtain rfl : j = f := by omega
                  obtain rfl : t = s := ht.trans HFH.out.1
                  obtain ⟨g, c, hgv, hbg⟩ := own_some hux (by omega)
                  injection hgv with hgv1 hgv2 hgv3
                  subst hgv1; subst hgv3
                  have hco := hux.cellAt j (by omega)
                  rw [getElem_map_u64 (by rw [outs_len]; exact hjq), outs_getD L hjq, HFH.out.1, ← HP.out] at hco
                  have HUX2 : Hid (∀ a, (wr.drewN a).ownsRow w.heap.size 23 1 (.slice (some ⟨g, 0, none⟩) q uc) q ((outs L q).map (Value.int .u64))) := Lib.hid (fun a => own_drewN HUX.out a)
                  have HVX2 : Hid (∀ a, (wr.drewN a).ownsRow w.heap.size 5 1 (.slice va (tab L q).length vc) (tab L q).length ((tab L q).map (Value.int .u8))) := Lib.hid (fun a => own_drewN HVX.out a)
                  clear ht hux
                  go_wp2_with fail
                  go_quiet (fail)
                  go_wp2_with (at_builtin; refine wpList_append_own _ rfl _ _ 32 rfl w.heap.size 23 i1 (.int .u64 0) 1 8 Try.underlying32 HJ.out HY0.out HY1.out HY2.out rfl (by decide) _ q _ rfl ((HUX2.out _).alloc _) _ 1 1 [.int .u64 (P : Int)] rfl rfl ?d1 ?d2 ?d3 ?d4 ?d5 ?_)
                  case d1 => exact cell_one_new _ _ _
                  case d2 => intro u hu; obtain rfl := List.mem_singleton.1 hu; rfl
                  case d3 => unfold maxLen; omega
                  case d4 => omega
                  case d5 => have := (below_drewN HBX.out nq).size; simp at this ⊢; omega
                  intro u' w3 hu3 hg3 hnil3
                  have HU3 : Hid (w3.ownsRow w.heap.size 23 1 u' (q + 1) ((outs L (q + 1)).map (Value.int .u64))) := Lib.hid (by
                    have e : pos L (q + 1) (nm L q) = P := by rw [HP.out, HSN.out, pos_stay (m := q + 1) ((seenB_iff _ _ _).1 HSEEN.out) (by omega)]
                    rw [outs, List.map_append, e]; exact hu3)
                  have HV3 := Lib.hid (((HVX2.out nq).alloc (.cells #[.int .u64 (P : Int)] 23)).kept hg3 (own_apart (HVX2.out nq) (HUX2.out nq) (by decide)))
                  have hb3 : Below w.heap.size w w3 := ((below_drewN HBX.out nq).alloc (below_drewN HBX.out nq).size _).grown hg3 (by have := (below_drewN HBX.out nq).size; simp at this ⊢; omega) (fun q e => (HUX.out.lt q e).1)
                  have HT3 := Lib.hid (tab_seen HSEEN.out)
                  clear hu3 hg3 hnil3
                  go_wp2
                  go_roundw
                  case rel => exact ⟨q + 1, by omega, by go_num, by rw [HT3.out], by rw [HT3.out]; exact HV3.out, HU3.out, hb3⟩
                  case measure => simp [intOf]; omega
            | false =>
              have HSEEN := Lib.hid hseen
              have HNE : Hid (∀ i, i < q → nm L i ≠ s) := Lib.hid (fun i hi e => by
                have := (seenB_iff L q (nm L q)).2 (.inr ⟨i, hi, HSN.out ▸ e⟩)
                rw [hseen] at this; cases this)
              have HTN := Lib.hid (tab_new hseen)
              have HLN : Hid ((tab L (q + 1)).length = (tab L q).length + s.size + 1) := Lib.hid (by
                rw [HTN.out, List.length_append, List.length_append, bs_len, HSN.out]; rfl)
              have hss : s.size ≤ 1000000 := by rw [HSN.out]; exact HSZ.out q
              clear hseen
              obtain ⟨wo, rfl⟩ : ∃ wo : World, wo = wr := ⟨_, rfl⟩
              go_wp2
              go_loopw [11, 12] (fun z i wx => ∃ j : Nat, j ≤ q ∧ i = .int .i64 j ∧ z = .int .u64 (tab L q).length ∧ wx.ownsRow w.heap.size 5 1 (.slice va (tab L q).length vc) (tab L q).length ((tab L q).map (Value.int .u8)) ∧
                wx.ownsRow w.heap.size 23 1 (.slice ua q uc) q ((outs L q).map (Value.int .u64)) ∧ Below w.heap.size w wx) (fun _ i _ => q - (intOf i).toNat)
              case atStart => exact ⟨0, Nat.zero_le _, rfl, rfl, HV.out, HU.out, hbel⟩
              case round =>
                obtain ⟨j, hj, rfl, rfl, hvx, hux, hbx⟩ := hrel
                have HVX := Lib.hid hvx
                have HUX := Lib.hid hux
                by_cases hjf : j < q
                · have HBX := Lib.hid hbx
                  have hcx : ∀ i, i < k → wr.cell? ⟨b, off + i, none⟩ = some (.string (nm L i)) := fun i hi =>
                    (hbx.cell (p := ⟨b, off + i, none⟩) (by show b < _; omega)).trans (HCL.out i hi)
                  have hcq := hcx q hlt
                  have hcj := hcx j (by omega)
                  rw [← HSN.out] at hcq
                  obtain ⟨t, ht⟩ : ∃ t, t = nm L j := ⟨_, rfl⟩
                  rw [← ht] at hcj
                  have hjl : (j : Int) < (k : Int) := by omega
                  have hts : (t.toList == s.toList) = false := toList_ne (ht ▸ HNE.out j hjf)
                  clear hvx hbx hcx hux ht
                  go_wp2_with fail
                  go_quiet (fail)
                  go_wp2
                  go_roundw
                  case rel => exact ⟨j + 1, by omega, by go_num, rfl, own_drewN HVX.out _, own_drewN HUX.out _, below_drewN HBX.out _⟩
                  case measure => simp [intOf]; omega
                · obtain rfl : q = j := by omega
                  have hcw : wr.cell? ⟨b, off + q, none⟩ = some (.string s) := by
                    rw [HSN.out]; exact (hbx.cell (p := ⟨b, off + q, none⟩) (by show b < _; omega)).trans (HCL.out q hlt)
                  clear hvx hux
                  go_wp2_with (at_builtin; refine Lib.wpList_append_own_string _ rfl _ _ 22 9 rfl w.heap.size 5 i0 Try.underlying22 Try.underlying9 HI.out HZ0.out HZ1.out HZ2.out _ (tab L q).length _ rfl HVX.out s rfl ?c1 ?c2 ?c3 ?_)
                  case c1 => unfold maxLen; omega
                  case c2 => omega
                  case c3 => exact hbx.size
                  intro v4 w4 hv4 hg4 hnil4
                  rw [bs_cells, ← List.map_append] at hv4
                  have hb4 : Below w.heap.size w w4 := hbx.grown hg4 hbx.size (fun q e => (HVX.out.lt q e).1)
                  have HV4 := Lib.hid hv4
                  have HU4 := Lib.hid (HUX.out.kept hg4 (own_apart HUX.out HVX.out (by decide)))
                  obtain ⟨va4, vc4, rfl⟩ := own_slice hv4
                  clear hv4 hg4 hnil4
                  go_wp2_with (at_builtin; refine wpList_append_own _ rfl _ _ 22 rfl w.heap.size 5 i0 (.int .u8 0) 1 1 Try.underlying22 HI.out HZ0.out HZ1.out HZ2.out rfl (by decide) _ ((tab L q).length + s.size) _ rfl (HV4.out.alloc _) ⟨w4.heap.size, 0, none⟩ 1 1 [.int .u8 0] rfl rfl ?d1 ?d2 ?d3 ?d4 ?d5 ?_)
                  case d1 => exact cell_one_new _ _ _
                  case d2 => intro u hu; obtain rfl := List.mem_singleton.1 hu; rfl
                  case d3 => unfold maxLen; omega
                  case d4 => omega
                  case d5 => have := hb4.size; simp; omega
                  intro v5 w5 hv5 hg5 hnil5
                  have hb5 : Below w.heap.size w w5 := (hb4.alloc hb4.size _).grown hg5 (by have := hb4.size; simp; omega) (fun q e => (HV4.out.lt q e).1)
                  obtain ⟨va5, vc5, rfl⟩ := own_slice hv5
                  have HV5 : Hid (w5.ownsRow w.heap.size 5 1 (.slice va5 ((tab L q).length + s.size + 1) vc5) (tab L (q + 1)).length ((tab L (q + 1)).map (Value.int .u8))) := Lib.hid (by
                    rw [HLN.out, HTN.out, ← HSN.out, List.map_append, List.map_append]; exact hv5)
                  have HU5 := Lib.hid ((HU4.out.alloc (.cells #[.int .u8 0] 5)).kept hg5 (own_apart HU4.out HV4.out (by decide)))
                  clear hv5 hg5 hnil5
                  go_wp2_with (at_builtin; refine wpList_append_own _ rfl _ _ 32 rfl w.heap.size 23 i1 (.int .u64 0) 1 8 Try.underlying32 HJ.out HY0.out HY1.out HY2.out rfl (by decide) _ q _ rfl (HU5.out.alloc _) _ 1 1 [.int .u64 ((tab L q).length : Int)] rfl rfl ?e1 ?e2 ?e3 ?e4 ?e5 ?_)
                  case e1 => exact cell_one_new _ _ _
                  case e2 => intro u hu; obtain rfl := List.mem_singleton.1 hu; rfl
                  case e3 => unfold maxLen; omega
                  case e4 => omega
                  case e5 => have := hb5.size; simp; omega
                  intro u6 w6 hu6 hg6 hnil6
                  have hb6 : Below w.heap.size w w6 := (hb5.alloc hb5.size _).grown hg6 (by have := hb5.size; simp; omega) (fun q e => (HU5.out.lt q e).1)
                  have HU6 : Hid (w6.ownsRow w.heap.size 23 1 u6 (q + 1) ((outs L (q + 1)).map (Value.int .u64))) := Lib.hid (by
                    rw [outs, List.map_append, pos_new HSEEN.out]; exact hu6)
                  have HV6 := Lib.hid ((HV5.out.alloc (.cells #[.int .u64 ((tab L q).length : Int)] 23)).kept hg6 (own_apart HV5.out HU5.out (by decide)))
                  clear hu6 hg6 hnil6
                  go_wp2
                  go_roundw
                  case rel => exact ⟨q + 1, by omega, by go_num, by rw [HLN.out]; go_num, HV6.out, HU6.out, hb6⟩
                  case measure => simp [intOf]; omega
        · obtain rfl : q = k := by omega
          have htqi : ((tab L q).length : Int) ≤ 1000002000001 := by omega
          by_cases hov : 65536 < (tab L q).length
          · have hovi : (65536 : Int) < ((tab L q).length : Int) := by omega
            have HLO : Hid (65536 < (tab L L.length).length) := Lib.hid (by rw [HLEN.out]; exact hov)
            clear hov
            go_wp2
            go_ret3
            exact ⟨hbel, .inl ⟨HLO.out, rfl⟩⟩
          · have hovi : ((tab L q).length : Int) ≤ 65536 := by omega
            have HOV : Hid ((tab L q).length ≤ 65536) := Lib.hid (by omega)
            clear hov
            go_wp2
            go_ret3
            exact buildPost_ok HLEN.out hbel HOV.out HV.out HU.out
end Go.Proofs.Ytncnmgmkmjikcaa
