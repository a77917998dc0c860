/-
  What is proved here: the reference of isa: Code.
  Conditions: none but that the arguments are values of their types.
-/
import Derived.Test.YtjpbbonkmnbabaaDoorIsaPar
namespace Go.Proofs.YtjpbbonkmnbabaaDoor
open Go.RowKit
set_option linter.unusedVariables false
set_option linter.unusedSimpArgs false

/-- A row of bytes of the call's own. -/
def Rw (base : Nat) (w : World) (v : Value) (zs : List Int) : Prop := w.ownsRow base 5 1 v zs.length (zs.map (Value.int .u8))
theorem fieldsI_may {L : List ByteArray} {op : Int} {i : In} (h : fieldsI L op = some i) : mayI i = true := by
  cases e : fieldK L (hasI op) 4 with
  | none => rw [fieldsI_none e] at h; cases h
  | some p =>
    obtain ⟨vs, t⟩ := p
    obtain ⟨a, b, c, m, -, hF⟩ := fieldsI_some e
    rw [hF] at h
    split at h
    · rename_i h2
      injection h with h
      rw [← h]; exact h2.2
    · cases h
theorem parseI_may {s : ByteArray} (h : (parseI s).2 = 0) : mayI (parseI s).1 = true := by
  unfold parseI at h ⊢
  split at h
  · cases h
  · rename_i c1
    split at h
    · cases h
    · rename_i c2
      rw [if_neg c1, if_neg c2]
      cases hi : fieldsI (splitI s) (opI ((splitI s).getD 0 ⟨#[]⟩)) with
      | none => rw [hi] at h; cases h
      | some i => exact fieldsI_may hi
theorem may_ok {i : In} (h : mayI i = true) : i.Ok := by
  obtain ⟨h0, h1, h2, h3, h4⟩ := mayI_bd h
  exact ⟨by omega, by omega, by omega, by omega, by omega⟩
theorem zero_okI : In.zero.Ok := ⟨by decide, by decide, by decide, by decide, by decide⟩
theorem encI_bd {i : In} (h : mayI i = true) : 0 ≤ (encI i).1 ∧ (encI i).1 ≤ 18446744073709551615 := by
  obtain ⟨h0, h1, h2, h3, h4⟩ := mayI_bd h
  rw [encI_yes h]
  simp only
  split <;> omega
def CodePost (Z : List Int × Int × Int) (w : World) (r : Ending) (w' : World) : Prop :=
  (∃ u, r = .returned (.tuple #[u, .int .i64 Z.2.1, .int .i64 Z.2.2]) ∧ Rw w.heap.size w' u Z.1) ∧ Below w.heap.size w w'
theorem skipI_zero {s : ByteArray} (h : (splitI s).length = 0) : skipI s = true := by unfold skipI; rw [decide_eq_true_eq]; exact .inl h
theorem skipI_more {s : ByteArray} (h : ¬ (splitI s).length = 0) : skipI s = decide ((bs ((splitI s).getD 0 ⟨#[]⟩)).getD 0 0 = 35) := by
  unfold skipI
  rw [decide_eq_decide]
  exact ⟨fun e => e.resolve_left h, .inr⟩
set_option maxRecDepth 100000 in
set_option maxHeartbeats 6400000 in
theorem rcode_any (s : ByteArray) (w : World) (hs : (s.size : Int) ≤ 9223372036854775807) :
    Calls Tryd.prog 21 #[.string s] w (CodePost (codeI s) w) := by
  obtain ⟨i0, hi, hz0, hz1, hz2⟩ := info_parts info_u8
  have HI := Lib.hid hi
  have HZ0 := Lib.hid hz0
  have HZ1 := Lib.hid hz1
  have HZ2 := Lib.hid hz2
  clear hi hz0 hz1 hz2
  by_cases hbig : 65536 < s.size
  · have hbi : (65536 : Int) < s.size := by omega
    have hZ : codeI s = ([], 13, 0) := by unfold codeI; rw [if_pos hbig]
    rw [hZ]
    go_enter Tryd.func21, Tryd.ntmps21
    go_wp2
    refine bodyPost_ret (v := .tuple #[.slice none 0 0, .int .i64 13, .int .i64 0]) (by simp [results, Tryd.results21, go_sem]) rfl ⟨⟨_, rfl, World.ownsRow_nil _ _ _ _⟩, Below.refl _ _⟩
  obtain ⟨Z, hZ⟩ : ∃ Z, codeI s = Z := ⟨_, rfl⟩
  have HZ : Hid (codeL s (s.size + 2) 0 0 0 [] = Z) := Lib.hid (by rw [← hZ]; unfold codeI; rw [if_neg hbig])
  rw [hZ]
  clear hZ
  obtain ⟨len, hlen⟩ : ∃ len, s.size = len := ⟨_, rfl⟩
  have hli : (len : Int) ≤ 65536 := by omega
  have HLEN := Lib.hid hlen
  rw [hlen] at HZ
  have HO0 : Hid (Rw w.heap.size w (.slice none 0 0) []) := Lib.hid (World.ownsRow_nil _ _ _ _)
  clear hs hbig
  go_enter Tryd.func21, Tryd.ntmps21
  go_wp2
  go_loopw [5, 6, 7, 8] (fun v fv lv y wl => ∃ (i fr f : Nat) (line : Int) (out : List Int), i ≤ len + 1 ∧ fr ≤ i ∧ y = .int .i64 i ∧ fv = .int .i64 fr ∧ lv = .int .i64 line ∧ 0 ≤ line ∧ line ≤ i ∧ len + 2 ≤ i + f ∧ out.length ≤ 8 * i ∧ codeL s f i fr line out = Z ∧ Rw w.heap.size wl v out ∧ Below w.heap.size w wl) (fun _ _ _ y _ => len + 1 - (intOf y).toNat)
  case atStart => exact ⟨0, 0, len + 2, 0, [], by omega, by omega, rfl, rfl, rfl, Int.le_refl _, by omega, by omega, Nat.zero_le _, HZ.out, HO0.out, Below.refl _ _⟩
  case round =>
    obtain ⟨i, fr, f, line, out, hi, hfr, rfl, rfl, rfl, l0, l1, hf, hout, hcd, hown, hbel⟩ := hrel
    have HO := Lib.hid hown
    have HB := Lib.hid hbel
    obtain ⟨va, vc, rfl⟩ := own_slice hown
    have hii : (i : Int) ≤ 65537 := by omega
    have hfri : (fr : Int) ≤ i := by omega
    obtain ⟨f, rfl⟩ : ∃ f', f = f' + 1 := ⟨f - 1, by omega⟩
    unfold codeL at hcd
    rw [hlen] at hcd
    clear hown hbel HO0 HZ
    by_cases c1 : len < i
    · rw [if_pos c1] at hcd
      subst hcd
      have hci : ¬ (i : Int) ≤ len := by omega
      go_wp2
      refine bodyPost_ret (v := .tuple #[.slice va out.length vc, .int .i64 0, .int .i64 0]) (by simp [results, Tryd.results21, go_sem]) rfl ⟨⟨_, rfl, HO.out⟩, HB.out⟩
    rw [if_neg c1] at hcd
    have hci : (i : Int) ≤ len := by omega
    have hsz := HB.out.size
    by_cases c2 : i < len ∧ (bs s).getD i 0 ≠ 10
    · rw [if_pos c2] at hcd
      have hbe := byteK_ne (show i < s.size by omega) c2.2
      have hil : (i : Int) < len := by omega
      go_wp2
      go_roundw
      case rel => exact ⟨i + 1, fr, f, line, out, by omega, by omega, by go_num, rfl, rfl, l0, by omega, by omega, by omega, hcd, HO.out, HB.out⟩
      case measure => (simp [intOf] <;> omega)
    rw [if_neg c2] at hcd
    have hex : (s.extract fr i).size ≤ 65536 := by rw [ByteArray.size_extract]; omega
    obtain ⟨S, hS⟩ : ∃ S, s.extract fr i = S := ⟨_, rfl⟩
    have HSE := Lib.hid hS
    rw [hS] at hcd hex
    have HSP := Lib.hid (fun w1 => rsplit_any S w1 (by omega))
    have HPA := Lib.hid (fun w1 => rparse_v S w1 (by omega))
    have HCD := Lib.hid hcd
    have HSK0 := Lib.hid (@skipI_zero S)
    have HSK1 := Lib.hid (@skipI_more S)
    have HSI := Lib.hid (splitI_size S)
    clear hcd
    by_cases c3 : i = len
    · subst c3
      go_wp2_with fail
      refine (HSP.out _).mono ?_
      rintro r w1 ⟨⟨u, rfl, ho⟩, hb1⟩
      obtain ⟨ua, uc, rfl⟩ := own_slice ho
      have HST := Lib.hid (Strs.own ho)
      have hl9 := own_len ho
      have HB1 := Lib.hid (HB.out.trans (hb1.mono hsz))
      have HO1 : Hid (Rw w.heap.size w1 (.slice va out.length vc) out) := Lib.hid (own_below HO.out hb1)
      clear ho hb1 HSP
      by_cases hn0 : (splitI S).length = 0
      · have HSKP := Lib.hid (HSK0.out hn0)
        have hnb : (((splitI S).length : Int) == 0) = true := by rw [beq_iff_eq]; omega
        clear HPA HSK0 HSK1
        have hcd := HCD.out
        rw [if_pos HSKP.out] at hcd
        have HC2 := Lib.hid hcd
        clear hcd HCD HSKP
        go_wp2
        go_roundw
        case rel => exact ⟨i + 1, i + 1, f, line + 1, out, by omega, Nat.le_refl _, by go_num, by go_num, by go_num, by omega, by omega, by omega, by omega, HC2.out, HO1.out, HB1.out⟩
        case measure => (simp [intOf] <;> omega)
      have HSK := HSK1.out hn0
      have hnb : (((splitI S).length : Int) == 0) = false := by rw [beq_eq_false_iff_ne]; omega
      have hnp : (0 : Int) < (splitI S).length := by omega
      obtain ⟨wt, hwt⟩ : ∃ wt : ByteArray, (splitI S).getD 0 ⟨#[]⟩ = wt := ⟨_, rfl⟩
      have hmem : (splitI S).getD 0 ⟨#[]⟩ ∈ splitI S := by
        rw [List.getD_eq_getElem?_getD, List.getElem?_eq_getElem (by omega)]
        exact List.getElem_mem _
      rw [hwt] at HSK hmem
      have hws := (HSI.out _ hmem).1
      have hws2 := (HSI.out _ hmem).2
      obtain ⟨b, off, rfl, hbl, hcells⟩ := HST.out.2 (by omega)
      have hc0 : w1.cell? ⟨b, off, none⟩ = some (.string wt) := by rw [← hwt]; exact hcells 0 (by omega)
      obtain ⟨n, hn⟩ : ∃ n, (splitI S).length = n := ⟨_, rfl⟩
      rw [hn] at hnb hnp hl9 ⊢
      have hwsi : (0 : Int) < wt.size := by omega
      have hwsj : (wt.size : Int) ≤ 65536 := by omega
      obtain ⟨c, hcc⟩ : ∃ c, (bs wt).getD 0 0 = c := ⟨_, rfl⟩
      have hbw := byteK_eq hws hcc
      rw [hcc] at HSK
      clear hcells hmem hwt hn hcc HST HSK0 HSK1 HSI hn0
      by_cases c4 : c = 35
      · have HSKP : Hid (skipI S = true) := Lib.hid (by rw [HSK, c4]; rfl)
        subst c4
        clear HPA HSK
        have hcd := HCD.out
        rw [if_pos HSKP.out] at hcd
        have HC2 := Lib.hid hcd
        clear hcd HCD HSKP
        go_wp2
        go_roundw
        case rel => exact ⟨i + 1, i + 1, f, line + 1, out, by omega, Nat.le_refl _, by go_num, by go_num, by go_num, by omega, by omega, by omega, by omega, HC2.out, HO1.out, HB1.out⟩
        case measure => (simp [intOf] <;> omega)
      have HSKN : Hid (¬ skipI S = true) := Lib.hid (by rw [HSK, decide_eq_false c4]; decide)
      have hcd := HCD.out
      rw [if_neg HSKN.out] at hcd
      have c4b : (c == 35) = false := by rw [beq_eq_false_iff_ne]; exact c4
      have hpv : parseV S = .tuple #[(parseI S).1.val, .int .i64 (parseI S).2] := rfl
      have hmay := @parseI_may S
      obtain ⟨⟨I, e⟩, hP⟩ : ∃ P, parseI S = P := ⟨_, rfl⟩
      rw [hP] at hpv hmay hcd
      simp only at hpv hmay hcd
      rw [show I.val = .agg #[.int .i64 I.op, .int .i64 I.a, .int .i64 I.b, .int .i64 I.c, .int .i64 I.imm] from rfl] at hpv
      rw [hpv] at HPA
      have HCD2 := Lib.hid hcd
      have HMAY := Lib.hid hmay
      clear HCD HSK HSKN hpv hP hcd hmay
      go_wp2_with fail
      refine (HPA.out _).mono ?_
      rintro r w2 ⟨rfl, hb2⟩
      have HB2 := Lib.hid (HB1.out.trans (hb2.mono HB1.out.size))
      have HO2 : Hid (Rw w.heap.size w2 (.slice va out.length vc) out) := Lib.hid (own_below HO1.out hb2)
      clear hb2 HPA hc0
      by_cases he : e = 0
      · subst he
        have hmy := HMAY.out rfl
        have hcd := HCD2.out
        rw [if_neg (by decide)] at hcd
        have HCD3 := Lib.hid hcd
        have henc := fun w' => renc_any I w' (may_ok hmy)
        have hxb := encI_bd hmy
        have hx2 : (encI I).2 = 0 := by rw [encI_yes hmy]
        obtain ⟨⟨x, e2⟩, hE⟩ : ∃ E, encI I = E := ⟨_, rfl⟩
        rw [hE] at hxb hx2 HCD3
        simp only [hE] at henc
        simp only at hx2 hxb HCD3
        subst hx2
        obtain ⟨x0, x1⟩ := hxb
        rw [show I.val = .agg #[.int .i64 I.op, .int .i64 I.a, .int .i64 I.b, .int .i64 I.c, .int .i64 I.imm] from rfl] at henc
        have HENC := Lib.hid henc
        have HB3 := Lib.hid (fun o => HB2.out.alloc HB2.out.size o)
        clear hcd henc hE HCD2 HMAY hmy
        go_wp2_with fail
        refine (HENC.out _).mono ?_
        rintro r w4 ⟨rfl, hb4⟩
        have HB4 := Lib.hid ((HB3.out _).trans (hb4.mono (HB3.out _).size))
        have HO4 : Hid (Rw w.heap.size w4 (.slice va out.length vc) out) := Lib.hid (own_below (HO2.out.alloc _) hb4)
        clear hb4 HENC HB3
        obtain ⟨wo, rfl⟩ : ∃ wo : World, wo = wr := ⟨_, rfl⟩
        go_wp2
        go_loopw [5, 13, 15] (fun v yv kv wl => ∃ k : Nat, k ≤ 8 ∧ kv = .int .i64 k ∧ yv = .int .u64 (x / 256 ^ k) ∧ Rw w.heap.size wl v (out ++ digs x k) ∧ Below w.heap.size w wl) (fun _ _ kv _ => 8 - (intOf kv).toNat)
        case atStart => exact ⟨0, by decide, rfl, by simp, by simpa [digs] using HO4.out, HB4.out⟩
        case round =>
          obtain ⟨k, hk, rfl, rfl, hown, hbel⟩ := hrel
          have HOW := Lib.hid hown
          have HBL := Lib.hid hbel
          have hol : (out ++ digs x k).length ≤ 8 * i + k := by rw [List.length_append, digs_len]; omega
          obtain ⟨qa, qc, rfl⟩ := own_slice hown
          clear hown hbel
          by_cases hlt : k < 8
          · have hki : (k : Int) < 8 := by omega
            have hdv := Lib.hid (div_step x k)
            have hdg : Hid (out ++ digs x (k + 1) = (out ++ digs x k) ++ [x / 256 ^ k % 256]) := Lib.hid (by rw [show digs x (k + 1) = digs x k ++ [x / 256 ^ k % 256] from rfl, List.append_assoc])
            have hy0 : 0 ≤ x / 256 ^ k := Int.ediv_nonneg x0 (Int.pow_nonneg (by decide))
            have hy1 : x / 256 ^ k ≤ 18446744073709551615 := Int.le_trans (Int.ediv_le_self _ x0) x1
            have hwz := HBL.out.size
            generalize out ++ digs x k = OD at hdg hol HOW ⊢
            generalize x / 256 ^ k = y at hdv hdg hy0 hy1 ⊢
            go_wp2_with (at_builtin; refine wpList_append_own _ rfl _ _ 49 rfl w.heap.size 5 i0 (.int .u8 0) 1 1 Tryd.underlying49 HI.out HZ0.out HZ1.out HZ2.out rfl (by decide) _ OD.length _ rfl (World.ownsRow.alloc HOW.out _) ⟨wr.heap.size, 0, none⟩ 1 1 [.int .u8 (y % 256)] rfl rfl ?x1 ?x2 ?x3 ?x4 ?x5 ?_)
            case x1 => exact cell_one_new _ _ _
            case x2 => intro u hu; obtain rfl := List.mem_singleton.1 hu; rfl
            case x3 => unfold maxLen; omega
            case x4 => omega
            case x5 => simp; omega
            intro v5 w5 hown5 hg5 hnil5
            have HB5 : Hid (Below w.heap.size w w5) := Lib.hid ((HBL.out.alloc HBL.out.size _).grown hg5 (by simp; omega) (fun q e => (HOW.out.lt q e).1))
            have HO5 : Hid (Rw w.heap.size w5 v5 (out ++ digs x (k + 1))) := Lib.hid (by
              rw [hdg.out]
              unfold Rw
              rw [List.length_append, List.map_append]
              exact hown5)
            clear hown5 hg5 hnil5
            go_wp2
            go_roundw
            case rel => exact ⟨k + 1, by omega, by go_num, by rw [hdv.out], HO5.out, HB5.out⟩
            case measure => (simp [intOf] <;> omega)
          · obtain rfl : k = 8 := by omega
            generalize out ++ digs x 8 = OD at hol HOW HCD3 ⊢
            generalize x / 256 ^ 8 = y at *
            obtain ⟨w7, rfl⟩ : ∃ w7 : World, w7 = wr := ⟨_, rfl⟩
            go_wp2
            go_roundw
            case rel => exact ⟨i + 1, i + 1, f, line + 1, OD, by omega, Nat.le_refl _, by go_num, by go_num, by go_num, by omega, by omega, by omega, by omega, HCD3.out, HOW.out, HBL.out⟩
            case measure => (simp [intOf] <;> omega)
      · have hcd := HCD2.out
        rw [if_pos he] at hcd
        subst hcd
        have heb : (e != 0) = true := by simpa using he
        have HB3 := Lib.hid (fun o => HB2.out.alloc HB2.out.size o)
        clear HCD2 HMAY
        go_wp2
        refine bodyPost_ret (v := .tuple #[.slice none 0 0, .int .i64 e, .int .i64 (line + 1)]) (by simp [results, Tryd.results21, go_sem]) rfl ⟨⟨_, rfl, World.ownsRow_nil _ _ _ _⟩, HB3.out _⟩
    · have hil : (i : Int) < len := by omega
      have hbe := byteK_eq (show i < s.size by omega) (show (bs s).getD i 0 = 10 by
        rcases Classical.em ((bs s).getD i 0 = 10) with h | h
        · exact h
        · exact absurd ⟨by omega, h⟩ c2)
      go_wp2_with fail
      refine (HSP.out _).mono ?_
      rintro r w1 ⟨⟨u, rfl, ho⟩, hb1⟩
      obtain ⟨ua, uc, rfl⟩ := own_slice ho
      have HST := Lib.hid (Strs.own ho)
      have hl9 := own_len ho
      have HB1 := Lib.hid (HB.out.trans (hb1.mono hsz))
      have HO1 : Hid (Rw w.heap.size w1 (.slice va out.length vc) out) := Lib.hid (own_below HO.out hb1)
      clear ho hb1 HSP
      by_cases hn0 : (splitI S).length = 0
      · have HSKP := Lib.hid (HSK0.out hn0)
        have hnb : (((splitI S).length : Int) == 0) = true := by rw [beq_iff_eq]; omega
        clear HPA HSK0 HSK1
        have hcd := HCD.out
        rw [if_pos HSKP.out] at hcd
        have HC2 := Lib.hid hcd
        clear hcd HCD HSKP
        go_wp2
        go_roundw
        case rel => exact ⟨i + 1, i + 1, f, line + 1, out, by omega, Nat.le_refl _, by go_num, by go_num, by go_num, by omega, by omega, by omega, by omega, HC2.out, HO1.out, HB1.out⟩
        case measure => (simp [intOf] <;> omega)
      have HSK := HSK1.out hn0
      have hnb : (((splitI S).length : Int) == 0) = false := by rw [beq_eq_false_iff_ne]; omega
      have hnp : (0 : Int) < (splitI S).length := by omega
      obtain ⟨wt, hwt⟩ : ∃ wt : ByteArray, (splitI S).getD 0 ⟨#[]⟩ = wt := ⟨_, rfl⟩
      have hmem : (splitI S).getD 0 ⟨#[]⟩ ∈ splitI S := by
        rw [List.getD_eq_getElem?_getD, List.getElem?_eq_getElem (by omega)]
        exact List.getElem_mem _
      rw [hwt] at HSK hmem
      have hws := (HSI.out _ hmem).1
      have hws2 := (HSI.out _ hmem).2
      obtain ⟨b, off, rfl, hbl, hcells⟩ := HST.out.2 (by omega)
      have hc0 : w1.cell? ⟨b, off, none⟩ = some (.string wt) := by rw [← hwt]; exact hcells 0 (by omega)
      obtain ⟨n, hn⟩ : ∃ n, (splitI S).length = n := ⟨_, rfl⟩
      rw [hn] at hnb hnp hl9 ⊢
      have hwsi : (0 : Int) < wt.size := by omega
      have hwsj : (wt.size : Int) ≤ 65536 := by omega
      obtain ⟨c, hcc⟩ : ∃ c, (bs wt).getD 0 0 = c := ⟨_, rfl⟩
      have hbw := byteK_eq hws hcc
      rw [hcc] at HSK
      clear hcells hmem hwt hn hcc HST HSK0 HSK1 HSI hn0
      by_cases c4 : c = 35
      · have HSKP : Hid (skipI S = true) := Lib.hid (by rw [HSK, c4]; rfl)
        subst c4
        clear HPA HSK
        have hcd := HCD.out
        rw [if_pos HSKP.out] at hcd
        have HC2 := Lib.hid hcd
        clear hcd HCD HSKP
        go_wp2
        go_roundw
        case rel => exact ⟨i + 1, i + 1, f, line + 1, out, by omega, Nat.le_refl _, by go_num, by go_num, by go_num, by omega, by omega, by omega, by omega, HC2.out, HO1.out, HB1.out⟩
        case measure => (simp [intOf] <;> omega)
      have HSKN : Hid (¬ skipI S = true) := Lib.hid (by rw [HSK, decide_eq_false c4]; decide)
      have hcd := HCD.out
      rw [if_neg HSKN.out] at hcd
      have c4b : (c == 35) = false := by rw [beq_eq_false_iff_ne]; exact c4
      have hpv : parseV S = .tuple #[(parseI S).1.val, .int .i64 (parseI S).2] := rfl
      have hmay := @parseI_may S
      obtain ⟨⟨I, e⟩, hP⟩ : ∃ P, parseI S = P := ⟨_, rfl⟩
      rw [hP] at hpv hmay hcd
      simp only at hpv hmay hcd
      rw [show I.val = .agg #[.int .i64 I.op, .int .i64 I.a, .int .i64 I.b, .int .i64 I.c, .int .i64 I.imm] from rfl] at hpv
      rw [hpv] at HPA
      have HCD2 := Lib.hid hcd
      have HMAY := Lib.hid hmay
      clear HCD HSK HSKN hpv hP hcd hmay
      go_wp2_with fail
      refine (HPA.out _).mono ?_
      rintro r w2 ⟨rfl, hb2⟩
      have HB2 := Lib.hid (HB1.out.trans (hb2.mono HB1.out.size))
      have HO2 : Hid (Rw w.heap.size w2 (.slice va out.length vc) out) := Lib.hid (own_below HO1.out hb2)
      clear hb2 HPA hc0
      by_cases he : e = 0
      · subst he
        have hmy := HMAY.out rfl
        have hcd := HCD2.out
        rw [if_neg (by decide)] at hcd
        have HCD3 := Lib.hid hcd
        have henc := fun w' => renc_any I w' (may_ok hmy)
        have hxb := encI_bd hmy
        have hx2 : (encI I).2 = 0 := by rw [encI_yes hmy]
        obtain ⟨⟨x, e2⟩, hE⟩ : ∃ E, encI I = E := ⟨_, rfl⟩
        rw [hE] at hxb hx2 HCD3
        simp only [hE] at henc
        simp only at hx2 hxb HCD3
        subst hx2
        obtain ⟨x0, x1⟩ := hxb
        rw [show I.val = .agg #[.int .i64 I.op, .int .i64 I.a, .int .i64 I.b, .int .i64 I.c, .int .i64 I.imm] from rfl] at henc
        have HENC := Lib.hid henc
        have HB3 := Lib.hid (fun o => HB2.out.alloc HB2.out.size o)
        clear hcd henc hE HCD2 HMAY hmy
        go_wp2_with fail
        refine (HENC.out _).mono ?_
        rintro r w4 ⟨rfl, hb4⟩
        have HB4 := Lib.hid ((HB3.out _).trans (hb4.mono (HB3.out _).size))
        have HO4 : Hid (Rw w.heap.size w4 (.slice va out.length vc) out) := Lib.hid (own_below (HO2.out.alloc _) hb4)
        clear hb4 HENC HB3
        obtain ⟨wo, rfl⟩ : ∃ wo : World, wo = wr := ⟨_, rfl⟩
        go_wp2
        go_loopw [5, 13, 15] (fun v yv kv wl => ∃ k : Nat, k ≤ 8 ∧ kv = .int .i64 k ∧ yv = .int .u64 (x / 256 ^ k) ∧ Rw w.heap.size wl v (out ++ digs x k) ∧ Below w.heap.size w wl) (fun _ _ kv _ => 8 - (intOf kv).toNat)
        case atStart => exact ⟨0, by decide, rfl, by simp, by simpa [digs] using HO4.out, HB4.out⟩
        case round =>
          obtain ⟨k, hk, rfl, rfl, hown, hbel⟩ := hrel
          have HOW := Lib.hid hown
          have HBL := Lib.hid hbel
          have hol : (out ++ digs x k).length ≤ 8 * i + k := by rw [List.length_append, digs_len]; omega
          obtain ⟨qa, qc, rfl⟩ := own_slice hown
          clear hown hbel
          by_cases hlt : k < 8
          · have hki : (k : Int) < 8 := by omega
            have hdv := Lib.hid (div_step x k)
            have hdg : Hid (out ++ digs x (k + 1) = (out ++ digs x k) ++ [x / 256 ^ k % 256]) := Lib.hid (by rw [show digs x (k + 1) = digs x k ++ [x / 256 ^ k % 256] from rfl, List.append_assoc])
            have hy0 : 0 ≤ x / 256 ^ k := Int.ediv_nonneg x0 (Int.pow_nonneg (by decide))
            have hy1 : x / 256 ^ k ≤ 18446744073709551615 := Int.le_trans (Int.ediv_le_self _ x0) x1
            have hwz := HBL.out.size
            generalize out ++ digs x k = OD at hdg hol HOW ⊢
            generalize x / 256 ^ k = y at hdv hdg hy0 hy1 ⊢
            go_wp2_with (at_builtin; refine wpList_append_own _ rfl _ _ 49 rfl w.heap.size 5 i0 (.int .u8 0) 1 1 Tryd.underlying49 HI.out HZ0.out HZ1.out HZ2.out rfl (by decide) _ OD.length _ rfl (World.ownsRow.alloc HOW.out _) ⟨wr.heap.size, 0, none⟩ 1 1 [.int .u8 (y % 256)] rfl rfl ?y1 ?y2 ?y3 ?y4 ?y5 ?_)
            case y1 => exact cell_one_new _ _ _
            case y2 => intro u hu; obtain rfl := List.mem_singleton.1 hu; rfl
            case y3 => unfold maxLen; omega
            case y4 => omega
            case y5 => simp; omega
            intro v5 w5 hown5 hg5 hnil5
            have HB5 : Hid (Below w.heap.size w w5) := Lib.hid ((HBL.out.alloc HBL.out.size _).grown hg5 (by simp; omega) (fun q e => (HOW.out.lt q e).1))
            have HO5 : Hid (Rw w.heap.size w5 v5 (out ++ digs x (k + 1))) := Lib.hid (by
              rw [hdg.out]
              unfold Rw
              rw [List.length_append, List.map_append]
              exact hown5)
            clear hown5 hg5 hnil5
            go_wp2
            go_roundw
            case rel => exact ⟨k + 1, by omega, by go_num, by rw [hdv.out], HO5.out, HB5.out⟩
            case measure => (simp [intOf] <;> omega)
          · obtain rfl : k = 8 := by omega
            generalize out ++ digs x 8 = OD at hol HOW HCD3 ⊢
            generalize x / 256 ^ 8 = y at *
            obtain ⟨w7, rfl⟩ : ∃ w7 : World, w7 = wr := ⟨_, rfl⟩
            go_wp2
            go_roundw
            case rel => exact ⟨i + 1, i + 1, f, line + 1, OD, by omega, Nat.le_refl _, by go_num, by go_num, by go_num, by omega, by omega, by omega, by omega, HCD3.out, HOW.out, HBL.out⟩
            case measure => (simp [intOf] <;> omega)
      · have hcd := HCD2.out
        rw [if_pos he] at hcd
        subst hcd
        have heb : (e != 0) = true := by simpa using he
        have HB3 := Lib.hid (fun o => HB2.out.alloc HB2.out.size o)
        clear HCD2 HMAY
        go_wp2
        refine bodyPost_ret (v := .tuple #[.slice none 0 0, .int .i64 e, .int .i64 (line + 1)]) (by simp [results, Tryd.results21, go_sem]) rfl ⟨⟨_, rfl, World.ownsRow_nil _ _ _ _⟩, HB3.out _⟩
end Go.Proofs.YtjpbbonkmnbabaaDoor
