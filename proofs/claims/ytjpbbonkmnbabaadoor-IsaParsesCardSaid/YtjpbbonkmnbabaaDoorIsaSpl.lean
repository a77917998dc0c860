/-
  What is proved here: the reference of isa: Split, read.
  Conditions: none but that the arguments are values of their types; texts of at most a million bytes.
-/
import Derived.Test.YtjpbbonkmnbabaaDoorIsaNum
namespace Go.Proofs.YtjpbbonkmnbabaaDoor
open Go.RowKit
set_option linter.unusedVariables false
set_option linter.unusedSimpArgs false

theorem info_st : (Tryd.prog.info? 9).map (fun i => (i.zero, i.size, i.bytes)) = some (some (.string .empty), 1, 16) := by kernel_rfl
theorem byteK_ne {s : ByteArray} {j : Nat} {c : Int} (h : j < s.size) (hz : (bs s).getD j 0 ≠ c) : ((s[j]'h).toNat : Int) ≠ c := by
  rw [bs_getElem h] at hz; exact hz
theorem byteK_eq {s : ByteArray} {j : Nat} {c : Int} (h : j < s.size) (hz : (bs s).getD j 0 = c) : ((s[j]'h).toNat : Int) = c := by
  rw [bs_getElem h] at hz; exact hz
/-- A row of the call's own that reads as strings. -/
def Rs (base : Nat) (w : World) (v : Value) (L : List ByteArray) : Prop := w.ownsRow base 9 1 v L.length (L.map Value.string)
set_option maxRecDepth 100000 in
set_option maxHeartbeats 3200000 in
theorem rsplit_any (s : ByteArray) (w : World) (hs : s.size ≤ 1000000) :
    Calls Tryd.prog 36 #[.string s] w fun r w' => (∃ u, r = .returned u ∧ Rs w.heap.size w' u (splitI s)) ∧ Below w.heap.size w w' := by
  obtain ⟨i0, hi, hz0, hz1, hz2⟩ := info_parts info_st
  have HI := Lib.hid hi
  have HZ0 := Lib.hid hz0
  have HZ1 := Lib.hid hz1
  have HZ2 := Lib.hid hz2
  clear hi hz0 hz1 hz2
  obtain ⟨Z, hZ⟩ : ∃ Z, splitI s = Z := ⟨_, rfl⟩
  have HZ : Hid (splitL s (s.size + 2) 0 0 [] = Z) := Lib.hid hZ
  rw [hZ]
  clear hZ
  obtain ⟨len, hlen⟩ : ∃ len, s.size = len := ⟨_, rfl⟩
  have hli : (len : Int) ≤ 1000000 := by omega
  have HLEN := Lib.hid hlen
  rw [hlen] at HZ hs
  have HO0 : Hid (Rs w.heap.size w (.slice none 0 0) []) := Lib.hid (World.ownsRow_nil _ _ _ _)
  go_enter Tryd.func36, Tryd.ntmps36
  go_wp2
  go_loopw [3, 4, 5] (fun v fv y wr => ∃ (i fr f : Nat) (out : List ByteArray), i ≤ len + 1 ∧ fr ≤ i ∧ y = .int .i64 i ∧ fv = .int .i64 fr ∧ len + 2 ≤ i + f ∧ out.length ≤ i ∧ splitL s f i fr out = Z ∧ Rs w.heap.size wr v out ∧ Below w.heap.size w wr) (fun _ _ y _ => len + 1 - (intOf y).toNat)
  case atStart => exact ⟨0, 0, len + 2, [], by omega, by omega, rfl, rfl, by omega, Nat.le_refl _, HZ.out, HO0.out, Below.refl _ _⟩
  case round =>
    obtain ⟨i, fr, f, out, hi, hfr, rfl, rfl, hf, hout, hsp, hown, hbel⟩ := hrel
    have HO := Lib.hid hown
    have HB := Lib.hid hbel
    have hii : (i : Int) ≤ 1000001 := by omega
    have hfri : (fr : Int) ≤ i := by omega
    obtain ⟨f, rfl⟩ : ∃ f', f = f' + 1 := ⟨f - 1, by omega⟩
    unfold splitL at hsp
    rw [hlen] at hsp
    clear hown hbel HO0 HZ
    by_cases c1 : len < i
    · rw [if_pos c1] at hsp
      subst hsp
      have hci : ¬ (i : Int) ≤ len := by omega
      go_wp2
      go_ret
      exact ⟨⟨_, rfl, HO.out⟩, HB.out⟩
    rw [if_neg c1] at hsp
    have hsz := HB.out.size
    have hci : (i : Int) ≤ len := by omega
    by_cases c2 : i = len
    · rw [if_pos (.inl c2)] at hsp
      subst c2
      have hcb : ((i : Int) == i) = true := by simp
      by_cases hfi : fr < i
      · have HS1 : Hid (fr < i) := Lib.hid hfi
        have hfri2 : (fr : Int) < i := by omega
        rw [if_pos hfi] at hsp
        go_wp2_with (at_builtin; refine wpList_append_own _ rfl _ _ 53 rfl w.heap.size 9 i0 (.string .empty) 1 16 Tryd.underlying53 HI.out HZ0.out HZ1.out HZ2.out rfl (by decide) _ out.length _ rfl (World.ownsRow.alloc HO.out _) ⟨wr.heap.size, 0, none⟩ 1 1 [.string (s.extract fr i)] rfl rfl ?xa ?xb ?xc ?xd ?xe ?_)
        case xa => exact cell_one_new _ _ _
        case xb => intro u hu; obtain rfl := List.mem_singleton.1 hu; rfl
        case xc => unfold maxLen; omega
        case xd => omega
        case xe => simp; omega
        intro v2 w2 hown2 hg2 hnil2
        have HB2 : Hid (Below w.heap.size w w2) := Lib.hid ((HB.out.alloc hsz _).grown hg2 (by simp; omega) (fun q e => (HO.out.lt q e).1))
        have HO2 : Hid (Rs w.heap.size w2 v2 (out ++ [s.extract fr i])) := Lib.hid (by
          unfold Rs; rw [List.length_append, List.map_append]; exact hown2)
        clear hown2 hg2 hnil2
        go_wp2
        go_roundw
        case rel => exact ⟨i + 1, i + 1, f, out ++ [s.extract fr i], by omega, Nat.le_refl _, by go_num, by go_num, by omega, by rw [List.length_append]; simp; omega, hsp, HO2.out, HB2.out⟩
        case measure => (simp [intOf] <;> omega)
      · have hfri2 : ¬ (fr : Int) < i := by omega
        rw [if_neg hfi] at hsp
        go_wp2
        go_roundw
        case rel => exact ⟨i + 1, i + 1, f, out, by omega, Nat.le_refl _, by go_num, by go_num, by omega, by omega, hsp, HO.out, HB.out⟩
        case measure => (simp [intOf] <;> omega)
    · have hcb : ((i : Int) == len) = false := by rw [beq_eq_false_iff_ne]; omega
      have hil : i < s.size := by omega
      by_cases c3 : (bs s).getD i 0 = 32
      · rw [if_pos (.inr c3)] at hsp
        have hbe := byteK_eq hil c3
        by_cases hfi : fr < i
        · have HS1 : Hid (fr < i) := Lib.hid hfi
          have hfri2 : (fr : Int) < i := by omega
          rw [if_pos hfi] at hsp
          go_wp2_with (at_builtin; refine wpList_append_own _ rfl _ _ 53 rfl w.heap.size 9 i0 (.string .empty) 1 16 Tryd.underlying53 HI.out HZ0.out HZ1.out HZ2.out rfl (by decide) _ out.length _ rfl (World.ownsRow.alloc HO.out _) ⟨wr.heap.size, 0, none⟩ 1 1 [.string (s.extract fr i)] rfl rfl ?ya ?yb ?yc ?yd ?ye ?_)
          case ya => exact cell_one_new _ _ _
          case yb => intro u hu; obtain rfl := List.mem_singleton.1 hu; rfl
          case yc => unfold maxLen; omega
          case yd => omega
          case ye => simp; omega
          intro v2 w2 hown2 hg2 hnil2
          have HB2 : Hid (Below w.heap.size w w2) := Lib.hid ((HB.out.alloc hsz _).grown hg2 (by simp; omega) (fun q e => (HO.out.lt q e).1))
          have HO2 : Hid (Rs w.heap.size w2 v2 (out ++ [s.extract fr i])) := Lib.hid (by
            unfold Rs; rw [List.length_append, List.map_append]; exact hown2)
          clear hown2 hg2 hnil2
          go_wp2
          go_roundw
          case rel => exact ⟨i + 1, i + 1, f, out ++ [s.extract fr i], by omega, Nat.le_refl _, by go_num, by go_num, by omega, by rw [List.length_append]; simp; omega, hsp, HO2.out, HB2.out⟩
          case measure => (simp [intOf] <;> omega)
        · have hfri2 : ¬ (fr : Int) < i := by omega
          rw [if_neg hfi] at hsp
          go_wp2
          go_roundw
          case rel => exact ⟨i + 1, i + 1, f, out, by omega, Nat.le_refl _, by go_num, by go_num, by omega, by omega, hsp, HO.out, HB.out⟩
          case measure => (simp [intOf] <;> omega)
      · rw [if_neg (by rintro (h | h) <;> contradiction)] at hsp
        have hbe := byteK_ne hil c3
        go_wp2
        go_roundw
        case rel => exact ⟨i + 1, fr, f, out, by omega, by omega, by go_num, rfl, by omega, by omega, hsp, HO.out, HB.out⟩
        case measure => (simp [intOf] <;> omega)
/-! ### read -/
theorem str_inj {a b : ByteArray} (h : a.toList = b.toList) : a = b := by
  have e : ∀ s : ByteArray, s.toList = Lib.bytesOf (bs s) := fun s => by
    have := Lib.strOfNums_toList (bs s)
    rw [strOfNums_bs] at this
    exact this
  rw [e, e] at h
  apply bs_inj
  unfold Lib.bytesOf at h
  have h2 := congrArg (List.map fun c : UInt8 => (c.toNat : Int)) h
  rw [List.map_map, List.map_map] at h2
  have id' : ∀ s : ByteArray, List.map ((fun c : UInt8 => (c.toNat : Int)) ∘ fun n => UInt8.ofNat n.toNat) (bs s) = bs s := fun s => by
    conv => rhs; rw [← List.map_id (bs s)]
    refine List.map_congr_left fun n hn => ?_
    have := bs_bd s n hn
    obtain ⟨m, rfl⟩ := Int.eq_ofNat_of_zero_le this.1
    have hm : m < 256 := by omega
    simp [Nat.mod_eq_of_lt hm]
  rw [id', id'] at h2
  exact h2
theorem str_ne {a b : ByteArray} (h : ¬ a = b) : (a.toList == b.toList) = false := by
  rw [beq_eq_false_iff_ne]
  exact fun e => h (str_inj e)
theorem readI_none {s : ByteArray} (h : readL s (s.size + 1) (if negI s = true then 1 else 0) 0 = none) : readI s = 1000000000000 := by unfold readI; rw [h]
theorem readI_some {s : ByteArray} {n : Int} (h : readL s (s.size + 1) (if negI s = true then 1 else 0) 0 = some n) : readI s = if numberI (if negI s = true then -n else n) = s then (if negI s = true then -n else n) else 1000000000000 := by unfold readI; rw [h]
set_option maxRecDepth 100000 in
set_option maxHeartbeats 3200000 in
theorem rread_any (s : ByteArray) (w : World) (hs : s.size ≤ 1000000) :
    Calls Tryd.prog 37 #[.string s] w fun r w' => r = .returned (.int .i64 (readI s)) ∧ w = w' := by
  obtain ⟨Z, hZ⟩ : ∃ Z, readI s = Z := ⟨_, rfl⟩
  have HN : Hid (readL s (s.size + 1) (if negI s = true then 1 else 0) 0 = none → Z = 1000000000000) := Lib.hid (fun h => hZ.symm.trans (readI_none h))
  have HS : Hid (∀ n, readL s (s.size + 1) (if negI s = true then 1 else 0) 0 = some n → Z = if numberI (if negI s = true then -n else n) = s then (if negI s = true then -n else n) else 1000000000000) := Lib.hid (fun n h => hZ.symm.trans (readI_some h))
  rw [hZ]
  clear hZ
  have hneg : negI s = decide (0 < s.size ∧ (bs s).getD 0 0 = 45) := rfl
  obtain ⟨g, hg⟩ : ∃ g, negI s = g := ⟨_, rfl⟩
  rw [hg] at HN HS hneg
  obtain ⟨len, hlen⟩ : ∃ len, s.size = len := ⟨_, rfl⟩
  have HLEN := Lib.hid hlen
  have hli : (len : Int) ≤ 1000000 := by omega
  rw [hlen] at HN HS hs hneg
  obtain ⟨R, hR⟩ : ∃ R, readL s (len + 1) (if g = true then 1 else 0) 0 = R := ⟨_, rfl⟩
  rw [hR] at HN HS
  have HR := Lib.hid hR
  have hstart : ∀ st : Nat, st = (if g = true then 1 else 0) → st ≤ len := by
    intro st he
    cases g with
    | false => rw [he]; exact Nat.zero_le _
    | true =>
      have := of_decide_eq_true hneg.symm
      rw [he]; simp only [if_true]; omega
  have HST := Lib.hid hstart
  clear hR hg hstart
  cases g with
  | false =>
    have hng := of_decide_eq_false hneg.symm
    have HR0 : Hid (readL s (len + 1) 0 0 = R) := HR
    clear HR hneg
    by_cases h0 : 0 < len
    · have h0i : (0 : Int) < len := by omega
      have hc0 : (bs s).getD 0 0 ≠ 45 := fun e => hng ⟨h0, e⟩
      have hb0 := byteK_ne (show 0 < s.size by omega) hc0
      clear hng hc0
      go_enter Tryd.func37, Tryd.ntmps37
      go_wp2
      go_loop [3, 5] (fun nv y => ∃ (i f : Nat) (n : Int), 0 ≤ i ∧ i ≤ len ∧ y = .int .i64 i ∧ nv = .int .i64 n ∧ len + 1 ≤ i + f ∧ 0 ≤ n ∧ n ≤ 10000000000009 ∧ readL s f i n = R) (fun _ y => len - (intOf y).toNat)
      case atStart => exact ⟨0, len + 1, 0, Nat.le_refl _, HST.out _ rfl, by rfl, rfl, by omega, Int.le_refl _, by decide, HR0.out⟩
      case round =>
        obtain ⟨i, f, n, hsi, hi, rfl, rfl, hf, n0, n1, hrd⟩ := hrel
        obtain ⟨f, rfl⟩ : ∃ f', f = f' + 1 := ⟨f - 1, by omega⟩
        unfold readL at hrd
        rw [hlen] at hrd
        have hii : (i : Int) ≤ len := by omega
        by_cases c1 : len ≤ i
        · rw [if_pos c1] at hrd
          have hci : ¬ (i : Int) < len := by omega
          have HS2 := Lib.hid (HS.out n hrd.symm)
          simp only [Bool.false_eq_true, if_false] at HS2
          have HNU := Lib.hid (fun w1 => rnum_any n w1 (by omega) (by omega))
          clear HS HN hrd HR0 HST
          go_wp2_with fail
          refine (HNU.out _).mono ?_
          rintro r w1 ⟨rfl, rfl⟩
          clear HNU
          by_cases he : numberI n = s
          · have hz := HS2.out
            rw [if_pos he] at hz
            subst hz
            rw [he]
            have hq : (s.toList == s.toList) = true := by simp
            go_wp2
            go_ret
            exact ⟨rfl, rfl⟩
          · have hz := HS2.out
            rw [if_neg he] at hz
            subst hz
            have hq := str_ne he
            have hq2 : ¬ (numberI n).toList = s.toList := fun e => he (str_inj e)
            generalize numberI n = NB at hq hq2 ⊢
            go_wp2
            go_ret
            exact ⟨rfl, rfl⟩
        · rw [if_neg c1] at hrd
          have hci : (i : Int) < len := by omega
          obtain ⟨c, hc⟩ : ∃ c, (bs s).getD i 0 = c := ⟨_, rfl⟩
          have hcb := byteK_eq (show i < s.size by omega) hc
          have hc255 := getD_bd (bs_bd s) i
          rw [hc] at hrd hc255
          obtain ⟨z0, z1⟩ := hc255
          clear hc
          by_cases c2 : c < 48
          · rw [if_pos (.inl c2)] at hrd
            obtain rfl := HN.out hrd.symm
            go_wp2
            go_ret
            exact ⟨rfl, rfl⟩
          by_cases c3 : 57 < c
          · rw [if_pos (.inr (.inl c3))] at hrd
            obtain rfl := HN.out hrd.symm
            go_wp2
            go_ret
            exact ⟨rfl, rfl⟩
          by_cases c4 : 1000000000000 < n
          · rw [if_pos (.inr (.inr c4))] at hrd
            obtain rfl := HN.out hrd.symm
            go_wp2
            go_ret
            exact ⟨rfl, rfl⟩
          rw [if_neg (by omega)] at hrd
          have HRD := Lib.hid hrd
          clear hrd HN HS HR0 HST
          go_wp2
          go_round
          case rel => exact ⟨i + 1, f, n * 10 + c - 48, by omega, by omega, by go_num, rfl, by omega, by omega, by omega, HRD.out⟩
          case measure => (simp [intOf] <;> omega)
    · obtain rfl : len = 0 := by omega
      clear hng
      go_enter Tryd.func37, Tryd.ntmps37
      go_wp2
      go_loop [3, 5] (fun nv y => ∃ (i f : Nat) (n : Int), 0 ≤ i ∧ i ≤ 0 ∧ y = .int .i64 i ∧ nv = .int .i64 n ∧ 0 + 1 ≤ i + f ∧ 0 ≤ n ∧ n ≤ 10000000000009 ∧ readL s f i n = R) (fun _ y => 0 - (intOf y).toNat)
      case atStart => exact ⟨0, 0 + 1, 0, Nat.le_refl _, HST.out _ rfl, by rfl, rfl, by omega, Int.le_refl _, by decide, HR0.out⟩
      case round =>
        obtain ⟨i, f, n, hsi, hi, rfl, rfl, hf, n0, n1, hrd⟩ := hrel
        obtain ⟨f, rfl⟩ : ∃ f', f = f' + 1 := ⟨f - 1, by omega⟩
        unfold readL at hrd
        rw [hlen] at hrd
        have hii : (i : Int) ≤ 0 := by omega
        by_cases c1 : 0 ≤ i
        · rw [if_pos c1] at hrd
          have hci : ¬ (i : Int) < 0 := by omega
          have HS2 := Lib.hid (HS.out n hrd.symm)
          simp only [Bool.false_eq_true, if_false] at HS2
          have HNU := Lib.hid (fun w1 => rnum_any n w1 (by omega) (by omega))
          clear HS HN hrd HR0 HST
          go_wp2_with fail
          refine (HNU.out _).mono ?_
          rintro r w1 ⟨rfl, rfl⟩
          clear HNU
          by_cases he : numberI n = s
          · have hz := HS2.out
            rw [if_pos he] at hz
            subst hz
            rw [he]
            have hq : (s.toList == s.toList) = true := by simp
            go_wp2
            go_ret
            exact ⟨rfl, rfl⟩
          · have hz := HS2.out
            rw [if_neg he] at hz
            subst hz
            have hq := str_ne he
            have hq2 : ¬ (numberI n).toList = s.toList := fun e => he (str_inj e)
            generalize numberI n = NB at hq hq2 ⊢
            go_wp2
            go_ret
            exact ⟨rfl, rfl⟩
        · rw [if_neg c1] at hrd
          have hci : (i : Int) < 0 := by omega
          obtain ⟨c, hc⟩ : ∃ c, (bs s).getD i 0 = c := ⟨_, rfl⟩
          have hcb := byteK_eq (show i < s.size by omega) hc
          have hc255 := getD_bd (bs_bd s) i
          rw [hc] at hrd hc255
          obtain ⟨z0, z1⟩ := hc255
          clear hc
          by_cases c2 : c < 48
          · rw [if_pos (.inl c2)] at hrd
            obtain rfl := HN.out hrd.symm
            go_wp2
            go_ret
            exact ⟨rfl, rfl⟩
          by_cases c3 : 57 < c
          · rw [if_pos (.inr (.inl c3))] at hrd
            obtain rfl := HN.out hrd.symm
            go_wp2
            go_ret
            exact ⟨rfl, rfl⟩
          by_cases c4 : 1000000000000 < n
          · rw [if_pos (.inr (.inr c4))] at hrd
            obtain rfl := HN.out hrd.symm
            go_wp2
            go_ret
            exact ⟨rfl, rfl⟩
          rw [if_neg (by omega)] at hrd
          have HRD := Lib.hid hrd
          clear hrd HN HS HR0 HST
          go_wp2
          go_round
          case rel => exact ⟨i + 1, f, n * 10 + c - 48, by omega, by omega, by go_num, rfl, by omega, by omega, by omega, HRD.out⟩
          case measure => (simp [intOf] <;> omega)
  | true =>
    have hng := of_decide_eq_true hneg.symm
    have HR0 : Hid (readL s (len + 1) 1 0 = R) := HR
    have h0i : (0 : Int) < len := by omega
    have hb0 := byteK_eq (show 0 < s.size by omega) hng.2
    clear HR hneg
    go_enter Tryd.func37, Tryd.ntmps37
    go_wp2
    go_loop [3, 5] (fun nv y => ∃ (i f : Nat) (n : Int), 1 ≤ i ∧ i ≤ len ∧ y = .int .i64 i ∧ nv = .int .i64 n ∧ len + 1 ≤ i + f ∧ 0 ≤ n ∧ n ≤ 10000000000009 ∧ readL s f i n = R) (fun _ y => len - (intOf y).toNat)
    case atStart => exact ⟨1, len + 1, 0, Nat.le_refl _, HST.out _ rfl, by rfl, rfl, by omega, Int.le_refl _, by decide, HR0.out⟩
    case round =>
      obtain ⟨i, f, n, hsi, hi, rfl, rfl, hf, n0, n1, hrd⟩ := hrel
      obtain ⟨f, rfl⟩ : ∃ f', f = f' + 1 := ⟨f - 1, by omega⟩
      unfold readL at hrd
      rw [hlen] at hrd
      have hii : (i : Int) ≤ len := by omega
      by_cases c1 : len ≤ i
      · rw [if_pos c1] at hrd
        have hci : ¬ (i : Int) < len := by omega
        have HS2 := Lib.hid (HS.out n hrd.symm)
        simp only [if_true] at HS2
        have HNU := Lib.hid (fun w1 => rnum_any (-n) w1 (by omega) (by omega))
        clear HS HN hrd HR0 HST
        go_wp2_with fail
        refine (HNU.out _).mono ?_
        rintro r w1 ⟨rfl, rfl⟩
        clear HNU
        by_cases he : numberI (-n) = s
        · have hz := HS2.out
          rw [if_pos he] at hz
          subst hz
          rw [he]
          have hq : (s.toList == s.toList) = true := by simp
          go_wp2
          go_ret
          exact ⟨rfl, rfl⟩
        · have hz := HS2.out
          rw [if_neg he] at hz
          subst hz
          have hq := str_ne he
          have hq2 : ¬ (numberI (-n)).toList = s.toList := fun e => he (str_inj e)
          generalize numberI (-n) = NB at hq hq2 ⊢
          go_wp2
          go_ret
          exact ⟨rfl, rfl⟩
      · rw [if_neg c1] at hrd
        have hci : (i : Int) < len := by omega
        obtain ⟨c, hc⟩ : ∃ c, (bs s).getD i 0 = c := ⟨_, rfl⟩
        have hcb := byteK_eq (show i < s.size by omega) hc
        have hc255 := getD_bd (bs_bd s) i
        rw [hc] at hrd hc255
        obtain ⟨z0, z1⟩ := hc255
        clear hc
        by_cases c2 : c < 48
        · rw [if_pos (.inl c2)] at hrd
          obtain rfl := HN.out hrd.symm
          go_wp2
          go_ret
          exact ⟨rfl, rfl⟩
        by_cases c3 : 57 < c
        · rw [if_pos (.inr (.inl c3))] at hrd
          obtain rfl := HN.out hrd.symm
          go_wp2
          go_ret
          exact ⟨rfl, rfl⟩
        by_cases c4 : 1000000000000 < n
        · rw [if_pos (.inr (.inr c4))] at hrd
          obtain rfl := HN.out hrd.symm
          go_wp2
          go_ret
          exact ⟨rfl, rfl⟩
        rw [if_neg (by omega)] at hrd
        have HRD := Lib.hid hrd
        clear hrd HN HS HR0 HST
        go_wp2
        go_round
        case rel => exact ⟨i + 1, f, n * 10 + c - 48, by omega, by omega, by go_num, rfl, by omega, by omega, by omega, HRD.out⟩
        case measure => (simp [intOf] <;> omega)
end Go.Proofs.YtjpbbonkmnbabaaDoor
