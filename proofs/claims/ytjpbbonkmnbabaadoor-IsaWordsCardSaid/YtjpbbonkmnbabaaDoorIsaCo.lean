/-
  What is proved here: bytesOf and Code of package isa.
  Conditions: the listed variables hold what they hold (Tb); texts of at most a million bytes.
-/
import Derived.Test.YtjpbbonkmnbabaaDoorIsaPa
import Derived.Test.YtjpbbonkmnbabaaDoorIsaOc
import Derived.Test.YtjpbbonkmnbabaaDoorIsaLin
import Derived.Test.YtjpbbonkmnbabaaDoorApp
namespace Go.Proofs.YtjpbbonkmnbabaaDoor
open Go.RowKit
set_option linter.unusedVariables false
set_option linter.unusedSimpArgs false

theorem setB_all (x : Int) : setB (List.replicate 8 0) 0 x 8 = digs x 8 := by
  unfold setB
  simp
theorem zeros_bd : ∀ n ∈ List.replicate 8 (0 : Int), 0 ≤ n ∧ n ≤ 255 := by
  intro n hn
  rw [List.eq_of_mem_replicate hn]; omega
set_option maxRecDepth 100000 in
set_option maxHeartbeats 1600000 in
theorem bytesof_ok (i : In) (w : World) (h : mayI i = true) (hT : Tb w) :
    Calls Tryd.prog 40 #[i.ival] w fun e w' => (∃ g, e = .returned (.slice (some ⟨g, 0, none⟩) 8 8) ∧ w'.ownsRow w.heap.size 5 1 (.slice (some ⟨g, 0, none⟩) 8 8) 8 ((digs (encI i).1 8).map (Value.int .u8))) ∧ Below w.heap.size w w' := by
  obtain ⟨i0, hi, hz0, hz1, hz2⟩ := info_parts info_u8
  have HI := Lib.hid hi
  have HZ0 := Lib.hid hz0
  have HZ1 := Lib.hid hz1
  have HZ2 := Lib.hid hz2
  have HE := Lib.hid (fun w1 h1 => ienc_any i w1 (may_ok32' h) h1)
  have HT1 : Hid (∀ w1, Below w.heap.size w w1 → Tb w1) := Lib.hid (fun w1 hb => hT.later hb)
  have hen := encI_bd h
  have HB0 := Lib.hid (fun o => bal1 w o)
  obtain ⟨⟨X, er⟩, hX⟩ : ∃ p, encI i = p := ⟨_, rfl⟩
  rw [hX] at HE hen ⊢
  simp only at HE hen ⊢
  obtain ⟨x0, x1⟩ := hen
  obtain ⟨op, a, b, c, m⟩ := i
  simp only [In.ival] at HE ⊢
  have HSET := Lib.hid (fun (B : Nat) (a : Option Addr) (w1 : World) (hb : Bys w1 B a 8 (List.replicate 8 0)) (hB : B ≤ w1.heap.size) => set_ok B a 8 8 (List.replicate 8 0) 0 8 X w1 hb hB (by omega) (by omega) (by omega) x0 x1)
  simp only [setB_all] at HSET
  clear hi hz0 hz1 hz2 h hT hX
  go_enter Tryd.func40, Tryd.ntmps40
  go_wp2_with fail
  refine (HE.out _ (HT1.out _ (HB0.out _))).mono ?_
  rintro e w1 ⟨rfl, hb1⟩
  have HB1 := Lib.hid ((HB0.out (.cells #[.int .i64 op, .int .i64 a, .int .i64 b, .int .i64 c, .int .i32 m] 24)).trans (hb1.mono (HB0.out _).size))
  clear hb1
  go_wp2_with (at_make; refine wpList_make_full _ rfl _ _ 49 rfl w1.heap.size 5 i0 (.int .u8 0) 1 Tryd.underlying49 HI.out HZ0.out HZ1.out .i64 .i64 _ _ 8 rfl rfl rfl rfl ?c1 ?c2 ?c3 ?_)
  case c1 => rw [HZ2.out]; omega
  case c2 => unfold maxLen; omega
  case c3 => exact Nat.le_refl _
  intro w2 hown hg
  have hb2 : Below w1.heap.size w1 w2 := (Below.refl _ _).grown hg (Nat.le_refl _) (fun _ e => by cases e)
  have hown2 : w2.ownsRow w1.heap.size 5 1 (.slice (some ⟨w1.heap.size, 0, none⟩) 8 8) 8 ((List.replicate 8 (0 : Int)).map (Value.int .u8)) := by
    have e : (List.replicate 8 (0 : Int)).map (Value.int .u8) = (madeCells #[.int .u8 0] 8).toList := by rw [toList_madeCells_one]; rfl
    rw [e]; exact hown
  have HBY := Lib.hid (Bys.own zeros_bd hown2)
  have HB2 := Lib.hid (HB1.out.trans (hb2.mono HB1.out.size))
  clear hown hown2 hg hb2
  go_wp2_with fail
  refine (HSET.out _ _ _ HBY.out (Nat.le_refl _)).mono ?_
  rintro e w3 ⟨rfl, ho, hb3⟩
  have HB3 := Lib.hid (HB2.out.trans (hb3.mono HB2.out.size))
  have HO3 := Lib.hid (own_base ho HB2.out.size)
  clear ho hb3
  go_wp2
  go_ret
  exact ⟨⟨_, rfl, HO3.out⟩, HB3.out⟩
theorem lines_at {L : List ByteArray} {k : Nat} (h : k < L.length) {t : TypeId} {w : World} {g : Nat} (hb : Blk w g (L.map Value.string).toArray t) : w.cell? ⟨g, k, none⟩ = some (.string (L.getD k ⟨#[]⟩)) := by
  rw [hb.cell k, List.getElem?_toArray, List.getElem?_map, List.getElem?_eq_getElem h, List.getD_eq_getElem?_getD, List.getElem?_eq_getElem h]; rfl
theorem codeS_drop {L : List ByteArray} {k : Nat} (h : k < L.length) (line : Int) (out : List Int) :
    codeS (L.drop k) line out = if skipI (L.getD k ⟨#[]⟩) = true then codeS (L.drop (k + 1)) (line + 1) out else if (parseI (L.getD k ⟨#[]⟩)).2 ≠ 0 then ([], (parseI (L.getD k ⟨#[]⟩)).2, line + 1) else codeS (L.drop (k + 1)) (line + 1) (out ++ digs (encI (parseI (L.getD k ⟨#[]⟩)).1).1 8) := by
  rw [List.drop_eq_getElem_cons h, List.getD_eq_getElem?_getD, List.getElem?_eq_getElem h]; rfl
theorem digs8_bd (x : Int) : ∀ n ∈ digs x 8, 0 ≤ n ∧ n ≤ 255 := digs_bd x 8
set_option maxRecDepth 100000 in
set_option maxHeartbeats 6400000 in
theorem icode_any (s : ByteArray) (w : World) (hs : s.size ≤ 1000000) (hT : Tb w) :
    Calls Tryd.prog 20 #[.string s] w (CodePost (codeI s) w) := by
  obtain ⟨i0, hi, hz0, hz1, hz2⟩ := info_parts info_u8
  have HI := Lib.hid hi
  have HZ0 := Lib.hid hz0
  have HZ1 := Lib.hid hz1
  have HZ2 := Lib.hid hz2
  have hsi : (s.size : Int) ≤ 1000000 := by omega
  clear hi hz0 hz1 hz2
  by_cases hbig : 65536 < s.size
  · have hbi : (65536 : Int) < s.size := by omega
    have hZ : codeI s = ([], 13, 0) := by unfold codeI; rw [if_pos hbig]
    rw [hZ]
    clear hZ hT
    go_enter Tryd.func20, Tryd.ntmps20
    go_wp2
    refine bodyPost_ret (v := .tuple #[.slice none 0 0, .int .i64 13, .int .i64 0]) (by simp [results, Tryd.results20, go_sem]) rfl ⟨⟨_, rfl, World.ownsRow_nil _ _ _ _⟩, Below.refl _ _⟩
  have hbi : ¬ (65536 : Int) < s.size := by omega
  have hZ := codeI_lines hbig
  obtain ⟨Z, hZZ⟩ : ∃ Z, codeI s = Z := ⟨_, rfl⟩
  rw [hZZ] at hZ ⊢
  obtain ⟨m, hm⟩ := hT.ml
  have HSP := Lib.hid (Tryd.strings_Split s ⟨#[10]⟩ m w (by omega) hm (by decide))
  have hcnt : Lib.countB s ⟨#[10]⟩ + 1 = (Lib.splitB ⟨#[10]⟩ 0 (Lib.countB s ⟨#[10]⟩) s).length := (Lib.splitB_all ⟨#[10]⟩ (by decide) 0 _ s rfl).symm
  rw [hcnt, splitB_lines] at HSP
  have hll : ((linesF s.data.toList []).map mkB).length ≤ 65537 := by
    rw [List.length_map]
    have := lines_count s.data.toList []
    have h2 : s.data.toList.length = s.size := by rw [Array.length_toList]; rfl
    omega
  have hls : ∀ t ∈ (linesF s.data.toList []).map mkB, t.size ≤ 1000000 := by
    intro t ht
    obtain ⟨l, hl, rfl⟩ := List.mem_map.1 ht
    have := lines_size s.data.toList [] l hl
    have h2 : s.data.toList.length = s.size := by rw [Array.length_toList]; rfl
    rw [mkB_size]
    simp at this; omega
  obtain ⟨LS, hLS⟩ : ∃ LS, (linesF s.data.toList []).map mkB = LS := ⟨_, rfl⟩
  rw [hLS] at HSP hZ hll hls
  have HZ : Hid (codeS (LS.drop 0) ((0 : Nat) : Int) [] = Z) := Lib.hid (by rw [List.drop_zero]; exact hZ.symm)
  have HLS := Lib.hid hls
  have HT1 : Hid (∀ w1, Below w.heap.size w w1 → Tb w1) := Lib.hid (fun w1 hb => hT.later hb)
  have HBK := Lib.hid (Blk.new w (LS.map Value.string).toArray 9)
  have HBW := Lib.hid (bal1 w (.cells (LS.map Value.string).toArray 9))
  obtain ⟨W1, hW1⟩ : ∃ W1, w.alloc (.cells (LS.map Value.string).toArray 9) = W1 := ⟨_, rfl⟩
  have hsz1 : W1.heap.size = w.heap.size + 1 := by rw [← hW1]; simp
  rw [hW1] at HSP HBK HBW
  have HS1 := Lib.hid hsz1
  obtain ⟨n, hn⟩ : ∃ n, LS.length = n := ⟨_, rfl⟩
  rw [hn] at HSP hll
  have HN := Lib.hid hn
  have hni : (n : Int) ≤ 65537 := by omega
  clear hT hZ hZZ hcnt hLS hW1 hsz1 hm hls hn hs
  go_enter Tryd.func20, Tryd.ntmps20
  go_wp2_with fail
  refine HSP.out.mono ?_
  rintro r w1 ⟨rfl, rfl⟩
  go_wp2
  go_loopw [5, 6, 7, 8, 9, 16] (fun v _ _ _ _ y wl => ∃ (k : Nat) (out : List Int), k ≤ n ∧ y = .int .i64 k ∧ out.length ≤ 8 * k ∧ codeS (LS.drop k) (k : Int) out = Z ∧ wl.ownsRow (w.heap.size + 1) 5 1 v out.length (out.map (Value.int .u8)) ∧ Below (w.heap.size + 1) w1 wl) (fun _ _ _ _ _ y _ => n - (intOf y).toNat)
  case atStart => exact ⟨0, [], Nat.zero_le _, rfl, Nat.zero_le _, HZ.out, World.ownsRow_nil _ _ _ _, Below.refl _ _⟩
  case round =>
    obtain ⟨k, out, hk, rfl, hol, hcd, hown, hbel⟩ := hrel
    obtain ⟨va, vc, rfl⟩ := own_slice hown
    have hki : (k : Int) ≤ n := by omega
    by_cases hlt : k < n
    · have hlk : k < LS.length := by rw [HN.out]; exact hlt
      have hlti : (k : Int) < n := by omega
      rw [codeS_drop hlk] at hcd
      have hbk := HBK.out.below hbel (Nat.lt_succ_self _)
      have hcell := lines_at hlk hbk
      have hL : (LS.getD k ⟨#[]⟩).size ≤ 1000000 := by
        rw [List.getD_eq_getElem?_getD, List.getElem?_eq_getElem hlk]
        exact HLS.out _ (List.getElem_mem hlk)
      obtain ⟨L, hLL⟩ : ∃ L, LS.getD k ⟨#[]⟩ = L := ⟨_, rfl⟩
      rw [hLL] at hcd hcell hL
      have HIG := Lib.hid (fun w2 => ignored_ok L w2)
      have HO := Lib.hid hown
      have HBE := Lib.hid hbel
      have HCD := Lib.hid hcd
      have HPA := Lib.hid (fun w2 h2 => iparse_any L w2 hL h2)
      have HPM := Lib.hid (fun h => parseI_may (s := L) h)
      have HTW := Lib.hid (HT1.out _ (HBW.out.trans (hbel.mono (Nat.le_succ _))))
      clear hcd hown hbel hLL hbk hL hll
      obtain ⟨SK, hSK⟩ : ∃ SK, skipI L = SK := ⟨_, rfl⟩
      rw [hSK] at HIG HCD
      clear hSK
      go_wp2_with fail
      refine (HIG.out _).mono ?_
      rintro r w2 ⟨rfl, rfl⟩
      cases SK with
      | true =>
        have HC2 := Lib.hid HCD.out
        simp only [if_true] at HC2
        clear HPA HPM HCD
        go_wp2
        go_roundw
        case rel => exact ⟨k + 1, out, by omega, by go_num, by omega, by have := HC2.out; push_cast; exact this, HO.out, HBE.out⟩
        case measure => (simp [intOf] <;> omega)
      | false =>
        have HC2 := Lib.hid HCD.out
        simp only [Bool.false_eq_true, if_false] at HC2
        clear HCD
        obtain ⟨⟨I, er⟩, hP⟩ : ∃ p, parseI L = p := ⟨_, rfl⟩
        rw [hP] at HPA HPM HC2
        simp only at HPA HPM HC2
        clear hP
        obtain ⟨IV, hIV⟩ : ∃ IV, I.ival = IV := ⟨_, rfl⟩
        obtain ⟨op, a, b, c, m'⟩ := I
        simp only [In.ival] at HPA hIV
        by_cases he : er = 0
        · subst he
          have hmay := HPM.out rfl
          have HBO := Lib.hid (fun w4 h4 => bytesof_ok ⟨op, a, b, c, m'⟩ w4 hmay h4)
          have HC3 := Lib.hid HC2.out
          simp only [ne_eq, not_true_eq_false, if_false, In.ival] at HC3 HBO
          obtain ⟨X, hX⟩ : ∃ X, (encI ⟨op, a, b, c, m'⟩).1 = X := ⟨_, rfl⟩
          rw [hX] at HC3 HBO
          clear hX hmay HPM HC2 hIV
          go_wp2_with fail
          refine (HPA.out _ HTW.out).mono ?_
          rintro r w3 ⟨rfl, hb3⟩
          have HB3 : Hid (∀ o, Below (w.heap.size + 1) w1 (w3.alloc o)) := Lib.hid (fun o => (HBE.out.trans (hb3.mono (Nat.le_trans (by rw [HS1.out]; exact Nat.le_refl _) HBE.out.size))).alloc (Nat.le_trans (by rw [← HS1.out]; exact HBE.out.size) hb3.size) o)
          have HO3 : Hid (∀ o, (w3.alloc o).ownsRow (w.heap.size + 1) 5 1 (.slice va out.length vc) out.length (out.map (Value.int .u8))) := Lib.hid (fun o => (own_below HO.out hb3).alloc o)
          have HK3 := Lib.hid (Blk.new w3 #[.int .i64 op, .int .i64 a, .int .i64 b, .int .i64 c, .int .i32 m'] 24)
          have HT3 := Lib.hid (fun o => HTW.out.later (bal hb3 o))
          clear hb3 HTW HPA HO
          obtain ⟨p0, p1, p2, p3, p4⟩ := cells5e HK3.out
          go_wp2_with fail
          refine (HBO.out _ (HT3.out _)).mono ?_
          rintro r w4 ⟨⟨g, rfl, ho4⟩, hb4⟩
          have hsz3 := (HB3.out (.cells #[.int .i64 op, .int .i64 a, .int .i64 b, .int .i64 c, .int .i32 m'] 24)).size
          rw [HS1.out] at hsz3
          have HB4 := Lib.hid ((HB3.out (.cells #[.int .i64 op, .int .i64 a, .int .i64 b, .int .i64 c, .int .i32 m'] 24)).trans (hb4.mono hsz3))
          have HO4 := Lib.hid (own_below (HO3.out (.cells #[.int .i64 op, .int .i64 a, .int .i64 b, .int .i64 c, .int .i32 m'] 24)) hb4)
          have HY4 := Lib.hid (Bys.own (digs8_bd X) ho4)
          have hsz4 : w.heap.size + 1 ≤ w4.heap.size := Nat.le_trans hsz3 hb4.size
          have HSZ4 := Lib.hid hsz4
          clear p0 p1 p2 p3 p4 ho4 hb4 hsz3 hsz4
          go_wp2_with (at_builtin; refine wpList_append_bys rfl _ _ 49 rfl (w.heap.size + 1) 5 i0 (.int .u8 0) 1 Tryd.underlying49 HI.out HZ0.out HZ1.out HZ2.out rfl _ out.length (out.map (Value.int .u8)) rfl HO4.out _ 8 8 w4.heap.size (digs X 8) rfl HY4.out (fun e => by cases e) ?x1 ?x2 HSZ4.out ?_)
          case x1 => unfold maxLen; omega
          case x2 => omega
          intro v' w5 hown5 hg5
          have hbel5 := (HB4.out).grown hg5 HSZ4.out (fun j hj => (World.ownsRow.lt HO4.out j hj).1)
          have hl8 : (digs X 8).length = 8 := digs_len X 8
          have HO5 : Hid (w5.ownsRow (w.heap.size + 1) 5 1 v' (out ++ digs X 8).length ((out ++ digs X 8).map (Value.int .u8))) := Lib.hid (by rw [List.length_append, hl8, List.map_append]; exact hown5)
          have HBE5 := Lib.hid hbel5
          have hlo : (out ++ digs X 8).length ≤ 8 * (k + 1) := by rw [List.length_append, hl8]; omega
          clear hown5 hg5 hbel5 hl8
          go_wp2
          go_roundw
          case rel => exact ⟨k + 1, out ++ digs X 8, by omega, by go_num, hlo, by have := HC3.out; push_cast; exact this, HO5.out, HBE5.out⟩
          case measure => (simp [intOf] <;> omega)
        · have HC3 := Lib.hid HC2.out
          have heb : (er != 0) = true := by simpa using he
          simp only [ne_eq, he, not_false_eq_true, if_true] at HC3
          obtain rfl := HC3.out
          clear HC3 HC2 HPM HO hIV
          go_wp2_with fail
          refine (HPA.out _ HTW.out).mono ?_
          rintro r w3 ⟨rfl, hb3⟩
          have HB3 : Hid (∀ o, Below w.heap.size w (w3.alloc o)) := Lib.hid (fun o => bal ((HBW.out.trans (HBE.out.mono (Nat.le_succ _))).trans (hb3.mono ((HBW.out.trans (HBE.out.mono (Nat.le_succ _))).size))) o)
          clear hb3
          go_wp2
          refine bodyPost_ret (v := .tuple #[.slice none 0 0, .int .i64 er, .int .i64 ((k : Int) + 1)]) (by simp [results, Tryd.results20, go_sem]) rfl ⟨⟨_, rfl, World.ownsRow_nil _ _ _ _⟩, HB3.out _⟩
    · obtain rfl : k = n := by omega
      have hd : LS.drop k = [] := List.drop_eq_nil_of_le (by rw [HN.out]; exact Nat.le_refl _)
      rw [hd] at hcd
      simp only [codeS] at hcd
      subst hcd
      have HO := Lib.hid (own_base hown (Nat.le_succ _))
      have HB := Lib.hid (HBW.out.trans (hbel.mono (Nat.le_succ _)))
      clear hown hbel hd
      go_wp2
      refine bodyPost_ret (v := .tuple #[.slice va out.length vc, .int .i64 0, .int .i64 0]) (by simp [results, Tryd.results20, go_sem]) rfl ⟨⟨_, rfl, HO.out⟩, HB.out⟩
end Go.Proofs.YtjpbbonkmnbabaaDoor
