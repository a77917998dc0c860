/-
  What is proved here: Parse of package isa.
  Conditions: the listed variables hold what they hold (Tb); texts of at most a million bytes.
-/
import Derived.Test.YtjpbbonkmnbabaaDoorIsaTe
namespace Go.Proofs.YtjpbbonkmnbabaaDoor
open Go.RowKit
set_option linter.unusedVariables false
set_option linter.unusedSimpArgs false

theorem index_f0 : ∀ w, (Instr.index 66 (.agg fieldsL.toArray) (.int .i64 0)).run Tryd.prog w = .ok (.agg #[.string ⟨#[97]⟩, .int .i64 0, .int .i64 31]) w := fun _ => by kernel_rfl
theorem index_f1 : ∀ w, (Instr.index 66 (.agg fieldsL.toArray) (.int .i64 1)).run Tryd.prog w = .ok (.agg #[.string ⟨#[98]⟩, .int .i64 0, .int .i64 31]) w := fun _ => by kernel_rfl
theorem index_f2 : ∀ w, (Instr.index 66 (.agg fieldsL.toArray) (.int .i64 2)).run Tryd.prog w = .ok (.agg #[.string ⟨#[99]⟩, .int .i64 0, .int .i64 31]) w := fun _ => by kernel_rfl
theorem index_f3 : ∀ w, (Instr.index 66 (.agg fieldsL.toArray) (.int .i64 3)).run Tryd.prog w = .ok (.agg #[.string ⟨#[105]⟩, .int .i64 (-2147483648), .int .i64 2147483647]) w := fun _ => by kernel_rfl
theorem next_sizes (l : List UInt8) : (nextU l).1.length ≤ l.length ∧ (nextU l).2.length ≤ l.length := by
  have h1 := (List.dropWhile_sublist (· == 32) (l := l)).length_le
  have h2 := (List.takeWhile_sublist (· != 32) (l := l.dropWhile (· == 32))).length_le
  have h3 := (List.dropWhile_sublist (· != 32) (l := l.dropWhile (· == 32))).length_le
  unfold nextU
  simp only [List.length_drop]
  omega
theorem next_sz {l : List UInt8} (h : (mkB l).size ≤ 1000000) : (mkB (nextU l).1).size ≤ 1000000 ∧ (mkB (nextU l).2).size ≤ 1000000 := by
  rw [mkB_size] at h ⊢
  rw [mkB_size]
  have := next_sizes l
  omega
theorem Blk.c4n {w : World} {g : Nat} {v0 v1 v2 v3 : Value} {t : TypeId} (h : Blk w g #[v0, v1, v2, v3] t) :
    w.cell? ⟨g, 0, none⟩ = some v0 ∧ w.cell? ⟨g, 1, none⟩ = some v1 ∧ w.cell? ⟨g, 2, none⟩ = some v2 ∧ w.cell? ⟨g, 3, none⟩ = some v3 := ⟨h.cell 0, h.cell 1, h.cell 2, h.cell 3⟩
theorem mkB_ne {l : List UInt8} (h : l ≠ []) : (mkB l).toList.isEmpty = false := by
  rw [list_data, mkB_data]
  cases l with
  | nil => exact absurd rfl h
  | cons a r => rfl
theorem five_in {B g : Nat} {w x : World} (h : Below B w x) (hg : B ≤ g) (u0 u1 u2 u3 u4 : Value) :
    Below B w (((((x.setCell ⟨g, 0, none⟩ u0).setCell ⟨g, 1, none⟩ u1).setCell ⟨g, 2, none⟩ u2).setCell ⟨g, 3, none⟩ u3).setCell ⟨g, 4, none⟩ u4) := five_below h hg u0 u1 u2 u3 u4
/-- The numbers read so far, in four cells. -/
def padN (vs : List Int) : Array Value := #[.int .i64 (vs.getD 0 0), .int .i64 (vs.getD 1 0), .int .i64 (vs.getD 2 0), .int .i64 (vs.getD 3 0)]
theorem len1 {vs : List Int} (h : vs.length = 1) : ∃ x0, vs = [x0] := by
  match vs, h with
  | [x], _ => exact ⟨x, rfl⟩
theorem len2 {vs : List Int} (h : vs.length = 2) : ∃ x0 x1, vs = [x0, x1] := by
  match vs, h with
  | [x, y], _ => exact ⟨x, y, rfl⟩
theorem len3 {vs : List Int} (h : vs.length = 3) : ∃ x0 x1 x2, vs = [x0, x1, x2] := by
  match vs, h with
  | [x, y, z], _ => exact ⟨x, y, z, rfl⟩
theorem set_other {w : World} {g g' i : Nat} {C : Array Value} {t : TypeId} {u : Value} (h : Blk w g C t) (hne : g ≠ g') : Blk (w.setCell ⟨g', i, none⟩ u) g C t := by
  unfold Blk at *
  unfold World.setCell
  simp only
  rw [Array.getElem?_modify, if_neg (fun e => hne e.symm)]
  exact h
set_option maxRecDepth 100000 in
set_option maxHeartbeats 6400000 in
theorem iparse_any (s : ByteArray) (w : World) (hs : s.size ≤ 1000000) (hT : Tb w) :
    Calls Tryd.prog 18 #[.string s] w fun r w' => r = .returned (.tuple #[(parseI s).1.ival, .int .i64 (parseI s).2]) ∧ Below w.heap.size w w' := by
  obtain ⟨PV, hPV⟩ : ∃ PV : Value, (Value.tuple #[(parseI s).1.ival, .int .i64 (parseI s).2]) = PV := ⟨_, rfl⟩
  rw [hPV]
  have HNX := Lib.hid (fun (l : List UInt8) w1 (hl : (mkB l).size ≤ 1000000) h1 => next_ok (mkB l) w1 hl h1)
  simp only [mkB_data] at HNX
  have hs0 : (mkB s.data.toList).size ≤ 1000000 := by rw [mkB_toList]; exact hs
  have HN0 := Lib.hid (fun w1 h1 => HNX.out s.data.toList w1 hs0 h1)
  rw [mkB_toList] at HN0
  have hsz := (next_sz hs0).1
  have HRZ := Lib.hid (next_sz hs0).2
  have HT1 : Hid (∀ w1, Below w.heap.size w w1 → Tb w1) := Lib.hid (fun w1 hb => hT.later hb)
  have HR0 := Lib.hid (Blk.new w #[.int .i64 0, .int .i64 0, .int .i64 0, .int .i64 0, .int .i32 0] 24)
  have HB0 := Lib.hid (fun o1 => bal1 w o1)
  obtain ⟨PT, hPT⟩ : ∃ PT, mkB (nextU s.data.toList).1 = PT := ⟨_, rfl⟩
  have HFN := Lib.hid (fun (w1 : World) (b1 : Nat) (h1 : Tb w1) (hc : w1.cell? ⟨b1, 0, none⟩ = some (.string PT)) => find_nm (fun r => r.nm.toList == PT.toList) b1 w1 h1 (fun s w2 hb => isnm_ok s b1 PT w2 (by rw [hb.cell (block_lt hc)]; exact hc)))
  by_cases hno : (nextU s.data.toList).1 = [] ∨ opI PT = 0
  · have hfind : opsT.find? (fun r => r.nm.toList == PT.toList) = none ∧ parseI s = (In.zero, 11) := by
      by_cases he : (nextU s.data.toList).1 = []
      · refine ⟨?_, ps_none he⟩
        rw [← hPT, he]
        exact find_empty
      · have h0 : opI PT = 0 := hno.resolve_left he
        obtain ⟨hps, hl, hg⟩ := ps_start (s := s) (op := 0) he
        refine ⟨?_, ?_⟩
        · rw [find_name, if_pos h0]
          rw [← hPT, mkB_size]
          intro e
          exact he (List.eq_nil_of_length_eq_zero e)
        · unfold parseI
          rw [if_neg hl, hg, hPT, if_pos h0]
    rw [hfind.1] at HFN
    have hpv : PV = .tuple #[.agg #[.int .i64 0, .int .i64 0, .int .i64 0, .int .i64 0, .int .i32 0], .int .i64 11] := by rw [← hPV, hfind.2]; rfl
    subst hpv
    simp only [foundO, Orow.zero, Orow.val, Option.isSome_none] at HFN
    rw [hPT] at HN0
    obtain ⟨RT, hRT⟩ : ∃ RT, mkB (nextU s.data.toList).2 = RT := ⟨_, rfl⟩
    rw [hRT] at HN0
    clear hPV hs hT hno hfind hPT hRT HRZ hsz hs0 HNX
    go_enter Tryd.func18, Tryd.ntmps18
    go_wp2_with fail
    refine (HN0.out _ (HT1.out _ (HB0.out _))).mono ?_
    rintro e w1 ⟨rfl, hb1⟩
    have HB1 := Lib.hid (fun o => bal ((HB0.out (.cells #[.int .i64 0, .int .i64 0, .int .i64 0, .int .i64 0, .int .i32 0] 24)).trans (hb1.mono (HB0.out _).size)) o)
    have HR1 := Lib.hid (fun o => (HR0.out.later hb1).alloc o)
    have HC1 := Lib.hid ((Blk.new w1 #[.string PT] 9).cell 0)
    clear hb1 HR0 HN0 HB0
    go_wp2_with fail
    refine (HFN.out _ _ (HT1.out _ (HB1.out _)) HC1.out).mono ?_
    rintro e w2 ⟨rfl, hb2⟩
    have HR2 := Lib.hid (fun o => ((HR1.out (.cells #[.string PT] 9)).later hb2).alloc o)
    have HB2 := Lib.hid (fun o => bal ((HB1.out (.cells #[.string PT] 9)).trans (hb2.mono (HB1.out _).size)) o)
    clear hb2 HR1 HB1 HC1 HFN
    have HKR2 := Lib.hid (HR2.out (.cells #[.int .i64 0, .string ⟨#[]⟩, .string ⟨#[]⟩] 56))
    obtain ⟨p0, p1, p2, p3, p4⟩ := cells5e HKR2.out
    obtain ⟨f0, f1, f2, f3, f4⟩ : _ ∧ _ ∧ _ ∧ _ ∧ _ := ⟨HKR2.out.frozen 0, HKR2.out.frozen 1, HKR2.out.frozen 2, HKR2.out.frozen 3, HKR2.out.frozen 4⟩
    go_wp2
    obtain ⟨e0, e1, e2, e3, e4⟩ := three_five HKR2.out (.int .i64 0) (.int .i64 0) (.int .i64 0) (.int .i64 0) (.int .i32 0)
    exact bodyPost_ret (v := .tuple #[.agg #[.int .i64 0, .int .i64 0, .int .i64 0, .int .i64 0, .int .i32 0], .int .i64 11]) (by simp [results, Tryd.results18, go_sem, e0, e1, e2, e3, e4]) rfl ⟨rfl, five_in (HB2.out _) (Nat.le_refl _) _ _ _ _ _⟩
  · have he : (nextU s.data.toList).1 ≠ [] := fun h => hno (.inl h)
    have h0 : opI PT ≠ 0 := fun h => hno (.inr h)
    obtain ⟨hps, hl, hg⟩ := ps_start (s := s) (op := opI PT) he
    rw [hPT] at hg
    have hsz2 : PT.size ≠ 0 := by
      rw [← hPT, mkB_size]
      intro e
      exact he (List.eq_nil_of_length_eq_zero e)
    have hfind := find_name hsz2
    rw [if_neg h0] at hfind
    rw [hfind] at HFN
    obtain ⟨hn1, _, _⟩ := opI_name h0
    have hw : (wordI (opI PT)).size ≠ 0 := by rw [hn1]; exact hsz2
    have hgo : opI ((splitI s).getD 0 ⟨#[]⟩) = opI PT := by rw [hg]
    have hop : rowOf (opI PT) = ⟨opI PT, wordI (opI PT), lettersI (opI PT)⟩ := rfl
    obtain ⟨op, hopn⟩ : ∃ op, opI PT = op := ⟨_, rfl⟩
    rw [hopn] at HFN hps hw hgo hop h0
    have HUC := Lib.hid (fun k w1 => uses_ok (rowOf op) (fieldF k) w1)
    have HTC := Lib.hid (fun k x w1 => takes_ok (rowOf op) (fieldF k) x w1)
    have HIO := Lib.hid (fun a b c m w1 h1 h2 => insof_ok (rowOf op) a b c m w1 h1 h2)
    have HNU := Lib.hid (fun (p : ByteArray) w1 (hp : p.size ≤ 1000000) h1 => number_ok p w1 hp h1)
    have HSK := Lib.hid (fun k vs ru (hk : k < 4) h hu => @ps_skip s op k vs ru hw hk h hu)
    have HRD := Lib.hid (fun k vs ru (hk : k < 4) h hu hn ht => @ps_read s op k vs ru hw hk h hu hn ht)
    have HFL : Hid (∀ k vs ru, k < 4 → PS s op k vs ru → useB (rowOf op) (fieldF k) = true → ((numP (mkB (nextU ru).1)).2 = false ∨ takeB (rowOf op) (fieldF k) (numP (mkB (nextU ru).1)).1 = false) → PV = .tuple #[.agg #[.int .i64 0, .int .i64 0, .int .i64 0, .int .i64 0, .int .i32 0], .int .i64 11]) := Lib.hid (fun k vs ru hk h hu hn => by
      rw [← hPV, ps_fail hw hk h hu hl hgo hn]; rfl)
    have HEN : Hid (∀ vs ru, PS s op 4 vs ru → ∃ a b c m, vs = [a, b, c, m] ∧ (-2147483648 ≤ m ∧ m ≤ 2147483647) ∧ ((nextU ru).1 = [] → PV = .tuple #[.agg #[.int .i64 op, .int .i64 a, .int .i64 b, .int .i64 c, .int .i32 m], .int .i64 0]) ∧ ((nextU ru).1 ≠ [] → PV = .tuple #[.agg #[.int .i64 0, .int .i64 0, .int .i64 0, .int .i64 0, .int .i32 0], .int .i64 11])) := Lib.hid (fun vs ru h => by
      obtain ⟨a, b, c, m, g1, g2, g3, g4⟩ := ps_end hw h hl hgo h0
      exact ⟨a, b, c, m, g1, g2, fun e => by rw [← hPV, g3 e]; rfl, fun e => by rw [← hPV, g4 e]; rfl⟩)
    obtain ⟨T, hfl⟩ := hT.fl
    have HFA : Hid (∀ w1, Below w.heap.size w w1 → w1.heap[0]? = some (.cells fieldsL.toArray T (0, 0))) := Lib.hid (fun w1 hb => hfl.later hb)
    have hfs : fieldsL.toArray.size = 12 := by decide
    have i0 := index_f0
    have i1 := index_f1
    have i2 := index_f2
    have i3 := index_f3
    obtain ⟨FA, hFA⟩ : ∃ FA, fieldsL.toArray = FA := ⟨_, rfl⟩
    rw [hFA] at HFA hfs i0 i1 i2 i3
    have HFS := Lib.hid hfs
    obtain ⟨nm, hnm⟩ : ∃ nm, wordI op = nm := ⟨_, rfl⟩
    obtain ⟨lt, hlt⟩ : ∃ lt, lettersI op = lt := ⟨_, rfl⟩
    rw [hnm, hlt] at hop
    rw [hop] at HFN HUC HTC HIO HSK HRD HFL
    have HPS := Lib.hid hps
    rw [hPT] at HN0
    clear hPV hs hT hno hfind hPT hs0 hfl hfs hFA hnm hlt hop hopn hw hgo hg hl h0 he hn1 hsz2 hsz hps
    simp only [foundO, Orow.val, Option.isSome_some, Frow.val] at HFN HUC HTC HIO
    have HU0 := Lib.hid (HUC.out 0)
    have HU1 := Lib.hid (HUC.out 1)
    have HU2 := Lib.hid (HUC.out 2)
    have HU3 := Lib.hid (HUC.out 3)
    have HT10 := Lib.hid (HTC.out 0)
    have HT11 := Lib.hid (HTC.out 1)
    have HT12 := Lib.hid (HTC.out 2)
    have HT13 := Lib.hid (HTC.out 3)
    obtain ⟨UB, hUB⟩ : ∃ UB : Nat → Bool, (fun k => useB ⟨op, nm, lt⟩ (fieldF k)) = UB := ⟨_, rfl⟩
    have hub : ∀ k, useB ⟨op, nm, lt⟩ (fieldF k) = UB k := fun k => by rw [← hUB]
    obtain ⟨TKB, hTKB⟩ : ∃ TKB : Nat → Int → Bool, (fun k x => takeB ⟨op, nm, lt⟩ (fieldF k) x) = TKB := ⟨_, rfl⟩
    have htk : ∀ k x, takeB ⟨op, nm, lt⟩ (fieldF k) x = TKB k x := fun k x => by rw [← hTKB]
    rw [hub] at HU0 HU1 HU2 HU3
    simp only [htk] at HT10 HT11 HT12 HT13
    simp only [hub, htk] at HSK HRD HFL
    simp only [fieldF] at HU0 HU1 HU2 HU3 HT10 HT11 HT12 HT13
    clear hUB hub hTKB htk HUC HTC
    go_enter Tryd.func18, Tryd.ntmps18
    go_wp2_with fail
    refine (HN0.out _ (HT1.out _ (HB0.out _))).mono ?_
    rintro e w1 ⟨rfl, hb1⟩
    have HB1 := Lib.hid (fun o => bal ((HB0.out (.cells #[.int .i64 0, .int .i64 0, .int .i64 0, .int .i64 0, .int .i32 0] 24)).trans (hb1.mono (HB0.out _).size)) o)
    have HR1 := Lib.hid (fun o => (HR0.out.later hb1).alloc o)
    have HC1 := Lib.hid ((Blk.new w1 #[.string PT] 9).cell 0)
    clear hb1 HR0 HN0 HB0
    go_wp2_with fail
    refine (HFN.out _ _ (HT1.out _ (HB1.out _)) HC1.out).mono ?_
    rintro e w2 ⟨rfl, hb2⟩
    have HR2 := Lib.hid (fun o o' => (((HR1.out (.cells #[.string PT] 9)).later hb2).alloc o).alloc o')
    have HB2 := Lib.hid (fun o o' => bal (bal ((HB1.out (.cells #[.string PT] 9)).trans (hb2.mono (HB1.out _).size)) o) o')
    have HKO := Lib.hid (fun o => (Blk.new w2 #[.int .i64 op, .string nm, .string lt] 56).alloc o)
    have HKN : Hid (∀ o, Blk ((w2.alloc o).alloc (.cells #[.int .i64 0, .int .i64 0, .int .i64 0, .int .i64 0] 61)) (w2.heap.size + 1) #[.int .i64 0, .int .i64 0, .int .i64 0, .int .i64 0] 61) := Lib.hid (fun o => by
      have := Blk.new (w2.alloc o) #[.int .i64 0, .int .i64 0, .int .i64 0, .int .i64 0] 61
      simpa using this)
    have hlw : w.heap.size ≤ w2.heap.size := by
      have := (HB1.out (.cells #[.string PT] 9)).size
      have := hb2.size
      omega
    have HLW := Lib.hid hlw
    clear hb2 HR1 HB1 HC1 HFN hlw
    go_wp2_with (refine wpList_load_row rfl 66 _ rfl 0 rfl _ _ (0, 0) _ (HFA.out _ (HB2.out _ _)) Tryd.underlying66 rfl (by rw [HFS.out]; kernel_rfl) ?_)
    go_loopw [5, 9, 10, 11, 12, 13, 30] (fun r _ _ _ _ _ y wr => ∃ (k : Nat) (vs : List Int) (ru : List UInt8), k ≤ 4 ∧ y = .int .i64 k ∧ r = .string (mkB ru) ∧ (mkB ru).size ≤ 1000000 ∧ PS s op k vs ru ∧ Blk wr w.heap.size #[.int .i64 0, .int .i64 0, .int .i64 0, .int .i64 0, .int .i32 0] 24 ∧ Blk wr w2.heap.size #[.int .i64 op, .string nm, .string lt] 56 ∧ Blk wr (w2.heap.size + 1) (padN vs) 61 ∧ Below w.heap.size w wr) (fun _ _ _ _ _ _ y _ => 4 - (intOf y).toNat)
    case atStart => exact ⟨0, [], _, by decide, rfl, rfl, HRZ.out, HPS.out, HR2.out _ _, HKO.out _, HKN.out _, HB2.out _ _⟩
    case round =>
      obtain ⟨k, vs, ru, hk, rfl, rfl, hrz, hps, hkr, hko, hkn, hbel⟩ := hrel
      have HPS := Lib.hid hps
      have HRZ := Lib.hid hrz
      have HKR := Lib.hid hkr
      have HKO := Lib.hid hko
      have HKN := Lib.hid hkn
      have HBE := Lib.hid hbel
      have hlen := hps.len
      clear hrz hps hkr hko hkn hbel HR2 HB2
      obtain rfl | rfl | rfl | rfl | rfl : k = 0 ∨ k = 1 ∨ k = 2 ∨ k = 3 ∨ k = 4 := by omega
      · obtain rfl : vs = [] := List.eq_nil_of_length_eq_zero hlen
        clear hlen
        have HKN2 : Hid (Blk wr (w2.heap.size + 1) #[.int .i64 0, .int .i64 0, .int .i64 0, .int .i64 0] 61) := HKN
        have HFLK := Lib.hid (HFL.out 0 _ _ (by decide) HPS.out)
        have HRDK := Lib.hid (HRD.out 0 _ _ (by decide) HPS.out)
        have HSQP := Lib.hid (HSK.out 0 _ _ (by decide) HPS.out)
        obtain ⟨U, hU⟩ : ∃ U, UB 0 = U := ⟨_, rfl⟩
        rw [hU] at HU0 HFLK HRDK HSQP
        have HBA := Lib.hid (fun o => bal HBE.out o)
        have HKOA := Lib.hid (fun o => HKO.out.alloc o)
        have HKFA := Lib.hid (Blk.new wr #[.string ⟨#[97]⟩, .int .i64 0, .int .i64 31] 65)
        have HKRA := Lib.hid (fun o => HKR.out.alloc o)
        have HKNA := Lib.hid (fun o => HKN2.out.alloc o)
        clear hU HKN
        obtain ⟨o0, o1, o2⟩ := (HKOA.out (.cells #[.string ⟨#[97]⟩, .int .i64 0, .int .i64 31] 65)).c3
        go_wp2_with fail
        refine (HU0.out _).mono ?_
        rintro e w3 ⟨rfl, hb3⟩
        clear o0 o1 o2
        have HB3 := Lib.hid ((HBA.out (.cells #[.string ⟨#[97]⟩, .int .i64 0, .int .i64 31] 65)).trans (hb3.mono (HBA.out _).size))
        have HKO3 := Lib.hid ((HKOA.out (.cells #[.string ⟨#[97]⟩, .int .i64 0, .int .i64 31] 65)).later hb3)
        have HKF3 := Lib.hid (HKFA.out.later hb3)
        have HKR3 := Lib.hid ((HKRA.out (.cells #[.string ⟨#[97]⟩, .int .i64 0, .int .i64 31] 65)).later hb3)
        have HKN3 := Lib.hid ((HKNA.out (.cells #[.string ⟨#[97]⟩, .int .i64 0, .int .i64 31] 65)).later hb3)
        clear hb3 HBA HKOA HKFA HKRA HKNA HBE HKO HKR HKN2
        cases U with
        | false =>
          have HS2 := Lib.hid (HSQP.out rfl)
          clear HFLK HRDK HSQP
          go_wp2
          go_roundw
          case rel => exact ⟨0 + 1, _, ru, by decide, by rfl, rfl, HRZ.out, HS2.out, HKR3.out, HKO3.out, HKN3.out, HB3.out⟩
          case measure => decide
        | true =>
          have HNX1 := Lib.hid (fun w1 h1 => HNX.out ru w1 HRZ.out h1)
          have HZ2 := Lib.hid (next_sz HRZ.out)
          have HF2 := Lib.hid (HFLK.out rfl)
          have HD2 := Lib.hid (HRDK.out rfl)
          have HNUM := Lib.hid (fun w1 h1 => HNU.out (mkB (nextU ru).1) w1 HZ2.out.1 h1)
          clear HFLK HRDK HSQP
          obtain ⟨P, hP⟩ : ∃ P, mkB (nextU ru).1 = P := ⟨_, rfl⟩
          rw [hP] at HNX1 HF2 HD2 HNUM
          obtain ⟨⟨X, KN⟩, hX⟩ : ∃ p, numP P = p := ⟨_, rfl⟩
          rw [hX] at HNUM HF2 HD2
          simp only at HNUM HF2 HD2
          clear hX
          obtain ⟨TV, hTV⟩ : ∃ TV, TKB 0 X = TV := ⟨_, rfl⟩
          have HTV := Lib.hid (HT10.out X)
          rw [hTV] at HTV HF2 HD2
          clear hP hTV
          go_wp2_with fail
          refine (HNX1.out _ (HT1.out _ HB3.out)).mono ?_
          rintro e w4 ⟨rfl, hb4⟩
          have HB4 := Lib.hid (HB3.out.trans (hb4.mono HB3.out.size))
          have HKO4 := Lib.hid (HKO3.out.later hb4)
          have HKF4 := Lib.hid (HKF3.out.later hb4)
          have HKR4 := Lib.hid (HKR3.out.later hb4)
          have HKN4 := Lib.hid (HKN3.out.later hb4)
          clear hb4 HB3 HKO3 HKF3 HKR3 HKN3
          go_wp2_with fail
          refine (HNUM.out _ (HT1.out _ HB4.out)).mono ?_
          rintro e w5 ⟨rfl, hb5⟩
          have HB5 := Lib.hid (HB4.out.trans (hb5.mono HB4.out.size))
          have HKO5 := Lib.hid (HKO4.out.later hb5)
          have HKF5 := Lib.hid (HKF4.out.later hb5)
          have HKR5 := Lib.hid (HKR4.out.later hb5)
          have HKN5 := Lib.hid (HKN4.out.later hb5)
          clear hb5 HB4 HKO4 HKF4 HKR4 HKN4 HNX1 HNUM
          cases KN with
          | false =>
            obtain rfl := HF2.out (.inl rfl)
            have HKRF := HKR5
            have HBEF := HB5
            clear HF2 HD2
            obtain ⟨p0, p1, p2, p3, p4⟩ := cells5e HKRF.out
            obtain ⟨f0, f1, f2, f3, f4⟩ : _ ∧ _ ∧ _ ∧ _ ∧ _ := ⟨HKRF.out.frozen 0, HKRF.out.frozen 1, HKRF.out.frozen 2, HKRF.out.frozen 3, HKRF.out.frozen 4⟩
            go_wp2
            obtain ⟨e0, e1, e2, e3, e4⟩ := three_five HKRF.out (.int .i64 0) (.int .i64 0) (.int .i64 0) (.int .i64 0) (.int .i32 0)
            exact bodyPost_ret (v := .tuple #[.agg #[.int .i64 0, .int .i64 0, .int .i64 0, .int .i64 0, .int .i32 0], .int .i64 11]) (by simp [results, Tryd.results18, go_sem, e0, e1, e2, e3, e4]) rfl ⟨rfl, five_in HBEF.out (Nat.le_refl _) _ _ _ _ _⟩
          | true =>
            obtain ⟨o0, o1, o2⟩ := HKO5.out.c3
            obtain ⟨g0, g1, g2⟩ := HKF5.out.c3
            go_wp2_with fail
            refine (HTV.out _).mono ?_
            rintro e w6 ⟨rfl, hb6⟩
            clear o0 o1 o2 g0 g1 g2
            have HB6 := Lib.hid (HB5.out.trans (hb6.mono HB5.out.size))
            have HKO6 := Lib.hid (HKO5.out.later hb6)
            have HKR6 := Lib.hid (HKR5.out.later hb6)
            have HKN6 := Lib.hid (HKN5.out.later hb6)
            clear hb6 HB5 HKO5 HKF5 HKR5 HKN5 HTV
            cases TV with
            | false =>
              obtain rfl := HF2.out (.inr rfl)
              have HKRF := HKR6
              have HBEF := HB6
              clear HF2 HD2
              obtain ⟨p0, p1, p2, p3, p4⟩ := cells5e HKRF.out
              obtain ⟨f0, f1, f2, f3, f4⟩ : _ ∧ _ ∧ _ ∧ _ ∧ _ := ⟨HKRF.out.frozen 0, HKRF.out.frozen 1, HKRF.out.frozen 2, HKRF.out.frozen 3, HKRF.out.frozen 4⟩
              go_wp2
              obtain ⟨e0, e1, e2, e3, e4⟩ := three_five HKRF.out (.int .i64 0) (.int .i64 0) (.int .i64 0) (.int .i64 0) (.int .i32 0)
              exact bodyPost_ret (v := .tuple #[.agg #[.int .i64 0, .int .i64 0, .int .i64 0, .int .i64 0, .int .i32 0], .int .i64 11]) (by simp [results, Tryd.results18, go_sem, e0, e1, e2, e3, e4]) rfl ⟨rfl, five_in HBEF.out (Nat.le_refl _) _ _ _ _ _⟩
            | true =>
              have HS2 := Lib.hid (HD2.out (by trivial) (by trivial))
              obtain ⟨n0, n1, n2, n3⟩ := HKN6.out.c4n
              obtain ⟨f0, f1, f2, f3⟩ : _ ∧ _ ∧ _ ∧ _ := ⟨HKN6.out.frozen 0, HKN6.out.frozen 1, HKN6.out.frozen 2, HKN6.out.frozen 3⟩
              have HST : Hid (∀ u, Blk (w6.setCell ⟨w2.heap.size + 1, 0, none⟩ u) (w2.heap.size + 1) (#[.int .i64 0, .int .i64 0, .int .i64 0, .int .i64 0].setIfInBounds 0 u) 61) := Lib.hid (fun u => HKN6.out.set 0 u)
              have HSR : Hid (∀ u, Blk (w6.setCell ⟨w2.heap.size + 1, 0, none⟩ u) w.heap.size #[.int .i64 0, .int .i64 0, .int .i64 0, .int .i64 0, .int .i32 0] 24) := Lib.hid (fun u => set_other HKR6.out (by have := HLW.out; omega))
              have HSO : Hid (∀ u, Blk (w6.setCell ⟨w2.heap.size + 1, 0, none⟩ u) w2.heap.size #[.int .i64 op, .string nm, .string lt] 56) := Lib.hid (fun u => set_other HKO6.out (by omega))
              have HSB : Hid (∀ u, Below w.heap.size w (w6.setCell ⟨w2.heap.size + 1, 0, none⟩ u)) := Lib.hid (fun u => HB6.out.setCell (by have := HLW.out; show _ ≤ w2.heap.size + 1; omega) u)
              clear HF2 HD2
              go_wp2
              go_roundw
              case rel => exact ⟨0 + 1, _, (nextU ru).2, by decide, by rfl, rfl, HZ2.out.2, HS2.out, HSR.out _, HSO.out _, HST.out _, HSB.out _⟩
              case measure => decide
      · obtain ⟨x0, rfl⟩ : ∃ x0, vs = [x0] := len1 hlen
        clear hlen
        have HKN2 : Hid (Blk wr (w2.heap.size + 1) #[.int .i64 x0, .int .i64 0, .int .i64 0, .int .i64 0] 61) := HKN
        have HFLK := Lib.hid (HFL.out 1 _ _ (by decide) HPS.out)
        have HRDK := Lib.hid (HRD.out 1 _ _ (by decide) HPS.out)
        have HSQP := Lib.hid (HSK.out 1 _ _ (by decide) HPS.out)
        obtain ⟨U, hU⟩ : ∃ U, UB 1 = U := ⟨_, rfl⟩
        rw [hU] at HU1 HFLK HRDK HSQP
        have HBA := Lib.hid (fun o => bal HBE.out o)
        have HKOA := Lib.hid (fun o => HKO.out.alloc o)
        have HKFA := Lib.hid (Blk.new wr #[.string ⟨#[98]⟩, .int .i64 0, .int .i64 31] 65)
        have HKRA := Lib.hid (fun o => HKR.out.alloc o)
        have HKNA := Lib.hid (fun o => HKN2.out.alloc o)
        clear hU HKN
        obtain ⟨o0, o1, o2⟩ := (HKOA.out (.cells #[.string ⟨#[98]⟩, .int .i64 0, .int .i64 31] 65)).c3
        go_wp2_with fail
        refine (HU1.out _).mono ?_
        rintro e w3 ⟨rfl, hb3⟩
        clear o0 o1 o2
        have HB3 := Lib.hid ((HBA.out (.cells #[.string ⟨#[98]⟩, .int .i64 0, .int .i64 31] 65)).trans (hb3.mono (HBA.out _).size))
        have HKO3 := Lib.hid ((HKOA.out (.cells #[.string ⟨#[98]⟩, .int .i64 0, .int .i64 31] 65)).later hb3)
        have HKF3 := Lib.hid (HKFA.out.later hb3)
        have HKR3 := Lib.hid ((HKRA.out (.cells #[.string ⟨#[98]⟩, .int .i64 0, .int .i64 31] 65)).later hb3)
        have HKN3 := Lib.hid ((HKNA.out (.cells #[.string ⟨#[98]⟩, .int .i64 0, .int .i64 31] 65)).later hb3)
        clear hb3 HBA HKOA HKFA HKRA HKNA HBE HKO HKR HKN2
        cases U with
        | false =>
          have HS2 := Lib.hid (HSQP.out rfl)
          clear HFLK HRDK HSQP
          go_wp2
          go_roundw
          case rel => exact ⟨1 + 1, _, ru, by decide, by rfl, rfl, HRZ.out, HS2.out, HKR3.out, HKO3.out, HKN3.out, HB3.out⟩
          case measure => decide
        | true =>
          have HNX1 := Lib.hid (fun w1 h1 => HNX.out ru w1 HRZ.out h1)
          have HZ2 := Lib.hid (next_sz HRZ.out)
          have HF2 := Lib.hid (HFLK.out rfl)
          have HD2 := Lib.hid (HRDK.out rfl)
          have HNUM := Lib.hid (fun w1 h1 => HNU.out (mkB (nextU ru).1) w1 HZ2.out.1 h1)
          clear HFLK HRDK HSQP
          obtain ⟨P, hP⟩ : ∃ P, mkB (nextU ru).1 = P := ⟨_, rfl⟩
          rw [hP] at HNX1 HF2 HD2 HNUM
          obtain ⟨⟨X, KN⟩, hX⟩ : ∃ p, numP P = p := ⟨_, rfl⟩
          rw [hX] at HNUM HF2 HD2
          simp only at HNUM HF2 HD2
          clear hX
          obtain ⟨TV, hTV⟩ : ∃ TV, TKB 1 X = TV := ⟨_, rfl⟩
          have HTV := Lib.hid (HT11.out X)
          rw [hTV] at HTV HF2 HD2
          clear hP hTV
          go_wp2_with fail
          refine (HNX1.out _ (HT1.out _ HB3.out)).mono ?_
          rintro e w4 ⟨rfl, hb4⟩
          have HB4 := Lib.hid (HB3.out.trans (hb4.mono HB3.out.size))
          have HKO4 := Lib.hid (HKO3.out.later hb4)
          have HKF4 := Lib.hid (HKF3.out.later hb4)
          have HKR4 := Lib.hid (HKR3.out.later hb4)
          have HKN4 := Lib.hid (HKN3.out.later hb4)
          clear hb4 HB3 HKO3 HKF3 HKR3 HKN3
          go_wp2_with fail
          refine (HNUM.out _ (HT1.out _ HB4.out)).mono ?_
          rintro e w5 ⟨rfl, hb5⟩
          have HB5 := Lib.hid (HB4.out.trans (hb5.mono HB4.out.size))
          have HKO5 := Lib.hid (HKO4.out.later hb5)
          have HKF5 := Lib.hid (HKF4.out.later hb5)
          have HKR5 := Lib.hid (HKR4.out.later hb5)
          have HKN5 := Lib.hid (HKN4.out.later hb5)
          clear hb5 HB4 HKO4 HKF4 HKR4 HKN4 HNX1 HNUM
          cases KN with
          | false =>
            obtain rfl := HF2.out (.inl rfl)
            have HKRF := HKR5
            have HBEF := HB5
            clear HF2 HD2
            obtain ⟨p0, p1, p2, p3, p4⟩ := cells5e HKRF.out
            obtain ⟨f0, f1, f2, f3, f4⟩ : _ ∧ _ ∧ _ ∧ _ ∧ _ := ⟨HKRF.out.frozen 0, HKRF.out.frozen 1, HKRF.out.frozen 2, HKRF.out.frozen 3, HKRF.out.frozen 4⟩
            go_wp2
            obtain ⟨e0, e1, e2, e3, e4⟩ := three_five HKRF.out (.int .i64 0) (.int .i64 0) (.int .i64 0) (.int .i64 0) (.int .i32 0)
            exact bodyPost_ret (v := .tuple #[.agg #[.int .i64 0, .int .i64 0, .int .i64 0, .int .i64 0, .int .i32 0], .int .i64 11]) (by simp [results, Tryd.results18, go_sem, e0, e1, e2, e3, e4]) rfl ⟨rfl, five_in HBEF.out (Nat.le_refl _) _ _ _ _ _⟩
          | true =>
            obtain ⟨o0, o1, o2⟩ := HKO5.out.c3
            obtain ⟨g0, g1, g2⟩ := HKF5.out.c3
            go_wp2_with fail
            refine (HTV.out _).mono ?_
            rintro e w6 ⟨rfl, hb6⟩
            clear o0 o1 o2 g0 g1 g2
            have HB6 := Lib.hid (HB5.out.trans (hb6.mono HB5.out.size))
            have HKO6 := Lib.hid (HKO5.out.later hb6)
            have HKR6 := Lib.hid (HKR5.out.later hb6)
            have HKN6 := Lib.hid (HKN5.out.later hb6)
            clear hb6 HB5 HKO5 HKF5 HKR5 HKN5 HTV
            cases TV with
            | false =>
              obtain rfl := HF2.out (.inr rfl)
              have HKRF := HKR6
              have HBEF := HB6
              clear HF2 HD2
              obtain ⟨p0, p1, p2, p3, p4⟩ := cells5e HKRF.out
              obtain ⟨f0, f1, f2, f3, f4⟩ : _ ∧ _ ∧ _ ∧ _ ∧ _ := ⟨HKRF.out.frozen 0, HKRF.out.frozen 1, HKRF.out.frozen 2, HKRF.out.frozen 3, HKRF.out.frozen 4⟩
              go_wp2
              obtain ⟨e0, e1, e2, e3, e4⟩ := three_five HKRF.out (.int .i64 0) (.int .i64 0) (.int .i64 0) (.int .i64 0) (.int .i32 0)
              exact bodyPost_ret (v := .tuple #[.agg #[.int .i64 0, .int .i64 0, .int .i64 0, .int .i64 0, .int .i32 0], .int .i64 11]) (by simp [results, Tryd.results18, go_sem, e0, e1, e2, e3, e4]) rfl ⟨rfl, five_in HBEF.out (Nat.le_refl _) _ _ _ _ _⟩
            | true =>
              have HS2 := Lib.hid (HD2.out (by trivial) (by trivial))
              obtain ⟨n0, n1, n2, n3⟩ := HKN6.out.c4n
              obtain ⟨f0, f1, f2, f3⟩ : _ ∧ _ ∧ _ ∧ _ := ⟨HKN6.out.frozen 0, HKN6.out.frozen 1, HKN6.out.frozen 2, HKN6.out.frozen 3⟩
              have HST : Hid (∀ u, Blk (w6.setCell ⟨w2.heap.size + 1, 1, none⟩ u) (w2.heap.size + 1) (#[.int .i64 x0, .int .i64 0, .int .i64 0, .int .i64 0].setIfInBounds 1 u) 61) := Lib.hid (fun u => HKN6.out.set 1 u)
              have HSR : Hid (∀ u, Blk (w6.setCell ⟨w2.heap.size + 1, 1, none⟩ u) w.heap.size #[.int .i64 0, .int .i64 0, .int .i64 0, .int .i64 0, .int .i32 0] 24) := Lib.hid (fun u => set_other HKR6.out (by have := HLW.out; omega))
              have HSO : Hid (∀ u, Blk (w6.setCell ⟨w2.heap.size + 1, 1, none⟩ u) w2.heap.size #[.int .i64 op, .string nm, .string lt] 56) := Lib.hid (fun u => set_other HKO6.out (by omega))
              have HSB : Hid (∀ u, Below w.heap.size w (w6.setCell ⟨w2.heap.size + 1, 1, none⟩ u)) := Lib.hid (fun u => HB6.out.setCell (by have := HLW.out; show _ ≤ w2.heap.size + 1; omega) u)
              clear HF2 HD2
              go_wp2
              go_roundw
              case rel => exact ⟨1 + 1, _, (nextU ru).2, by decide, by rfl, rfl, HZ2.out.2, HS2.out, HSR.out _, HSO.out _, HST.out _, HSB.out _⟩
              case measure => decide
      · obtain ⟨x0, x1, rfl⟩ : ∃ x0 x1, vs = [x0, x1] := len2 hlen
        clear hlen
        have HKN2 : Hid (Blk wr (w2.heap.size + 1) #[.int .i64 x0, .int .i64 x1, .int .i64 0, .int .i64 0] 61) := HKN
        have HFLK := Lib.hid (HFL.out 2 _ _ (by decide) HPS.out)
        have HRDK := Lib.hid (HRD.out 2 _ _ (by decide) HPS.out)
        have HSQP := Lib.hid (HSK.out 2 _ _ (by decide) HPS.out)
        obtain ⟨U, hU⟩ : ∃ U, UB 2 = U := ⟨_, rfl⟩
        rw [hU] at HU2 HFLK HRDK HSQP
        have HBA := Lib.hid (fun o => bal HBE.out o)
        have HKOA := Lib.hid (fun o => HKO.out.alloc o)
        have HKFA := Lib.hid (Blk.new wr #[.string ⟨#[99]⟩, .int .i64 0, .int .i64 31] 65)
        have HKRA := Lib.hid (fun o => HKR.out.alloc o)
        have HKNA := Lib.hid (fun o => HKN2.out.alloc o)
        clear hU HKN
        obtain ⟨o0, o1, o2⟩ := (HKOA.out (.cells #[.string ⟨#[99]⟩, .int .i64 0, .int .i64 31] 65)).c3
        go_wp2_with fail
        refine (HU2.out _).mono ?_
        rintro e w3 ⟨rfl, hb3⟩
        clear o0 o1 o2
        have HB3 := Lib.hid ((HBA.out (.cells #[.string ⟨#[99]⟩, .int .i64 0, .int .i64 31] 65)).trans (hb3.mono (HBA.out _).size))
        have HKO3 := Lib.hid ((HKOA.out (.cells #[.string ⟨#[99]⟩, .int .i64 0, .int .i64 31] 65)).later hb3)
        have HKF3 := Lib.hid (HKFA.out.later hb3)
        have HKR3 := Lib.hid ((HKRA.out (.cells #[.string ⟨#[99]⟩, .int .i64 0, .int .i64 31] 65)).later hb3)
        have HKN3 := Lib.hid ((HKNA.out (.cells #[.string ⟨#[99]⟩, .int .i64 0, .int .i64 31] 65)).later hb3)
        clear hb3 HBA HKOA HKFA HKRA HKNA HBE HKO HKR HKN2
        cases U with
        | false =>
          have HS2 := Lib.hid (HSQP.out rfl)
          clear HFLK HRDK HSQP
          go_wp2
          go_roundw
          case rel => exact ⟨2 + 1, _, ru, by decide, by rfl, rfl, HRZ.out, HS2.out, HKR3.out, HKO3.out, HKN3.out, HB3.out⟩
          case measure => decide
        | true =>
          have HNX1 := Lib.hid (fun w1 h1 => HNX.out ru w1 HRZ.out h1)
          have HZ2 := Lib.hid (next_sz HRZ.out)
          have HF2 := Lib.hid (HFLK.out rfl)
          have HD2 := Lib.hid (HRDK.out rfl)
          have HNUM := Lib.hid (fun w1 h1 => HNU.out (mkB (nextU ru).1) w1 HZ2.out.1 h1)
          clear HFLK HRDK HSQP
          obtain ⟨P, hP⟩ : ∃ P, mkB (nextU ru).1 = P := ⟨_, rfl⟩
          rw [hP] at HNX1 HF2 HD2 HNUM
          obtain ⟨⟨X, KN⟩, hX⟩ : ∃ p, numP P = p := ⟨_, rfl⟩
          rw [hX] at HNUM HF2 HD2
          simp only at HNUM HF2 HD2
          clear hX
          obtain ⟨TV, hTV⟩ : ∃ TV, TKB 2 X = TV := ⟨_, rfl⟩
          have HTV := Lib.hid (HT12.out X)
          rw [hTV] at HTV HF2 HD2
          clear hP hTV
          go_wp2_with fail
          refine (HNX1.out _ (HT1.out _ HB3.out)).mono ?_
          rintro e w4 ⟨rfl, hb4⟩
          have HB4 := Lib.hid (HB3.out.trans (hb4.mono HB3.out.size))
          have HKO4 := Lib.hid (HKO3.out.later hb4)
          have HKF4 := Lib.hid (HKF3.out.later hb4)
          have HKR4 := Lib.hid (HKR3.out.later hb4)
          have HKN4 := Lib.hid (HKN3.out.later hb4)
          clear hb4 HB3 HKO3 HKF3 HKR3 HKN3
          go_wp2_with fail
          refine (HNUM.out _ (HT1.out _ HB4.out)).mono ?_
          rintro e w5 ⟨rfl, hb5⟩
          have HB5 := Lib.hid (HB4.out.trans (hb5.mono HB4.out.size))
          have HKO5 := Lib.hid (HKO4.out.later hb5)
          have HKF5 := Lib.hid (HKF4.out.later hb5)
          have HKR5 := Lib.hid (HKR4.out.later hb5)
          have HKN5 := Lib.hid (HKN4.out.later hb5)
          clear hb5 HB4 HKO4 HKF4 HKR4 HKN4 HNX1 HNUM
          cases KN with
          | false =>
            obtain rfl := HF2.out (.inl rfl)
            have HKRF := HKR5
            have HBEF := HB5
            clear HF2 HD2
            obtain ⟨p0, p1, p2, p3, p4⟩ := cells5e HKRF.out
            obtain ⟨f0, f1, f2, f3, f4⟩ : _ ∧ _ ∧ _ ∧ _ ∧ _ := ⟨HKRF.out.frozen 0, HKRF.out.frozen 1, HKRF.out.frozen 2, HKRF.out.frozen 3, HKRF.out.frozen 4⟩
            go_wp2
            obtain ⟨e0, e1, e2, e3, e4⟩ := three_five HKRF.out (.int .i64 0) (.int .i64 0) (.int .i64 0) (.int .i64 0) (.int .i32 0)
            exact bodyPost_ret (v := .tuple #[.agg #[.int .i64 0, .int .i64 0, .int .i64 0, .int .i64 0, .int .i32 0], .int .i64 11]) (by simp [results, Tryd.results18, go_sem, e0, e1, e2, e3, e4]) rfl ⟨rfl, five_in HBEF.out (Nat.le_refl _) _ _ _ _ _⟩
          | true =>
            obtain ⟨o0, o1, o2⟩ := HKO5.out.c3
            obtain ⟨g0, g1, g2⟩ := HKF5.out.c3
            go_wp2_with fail
            refine (HTV.out _).mono ?_
            rintro e w6 ⟨rfl, hb6⟩
            clear o0 o1 o2 g0 g1 g2
            have HB6 := Lib.hid (HB5.out.trans (hb6.mono HB5.out.size))
            have HKO6 := Lib.hid (HKO5.out.later hb6)
            have HKR6 := Lib.hid (HKR5.out.later hb6)
            have HKN6 := Lib.hid (HKN5.out.later hb6)
            clear hb6 HB5 HKO5 HKF5 HKR5 HKN5 HTV
            cases TV with
            | false =>
              obtain rfl := HF2.out (.inr rfl)
              have HKRF := HKR6
              have HBEF := HB6
              clear HF2 HD2
              obtain ⟨p0, p1, p2, p3, p4⟩ := cells5e HKRF.out
              obtain ⟨f0, f1, f2, f3, f4⟩ : _ ∧ _ ∧ _ ∧ _ ∧ _ := ⟨HKRF.out.frozen 0, HKRF.out.frozen 1, HKRF.out.frozen 2, HKRF.out.frozen 3, HKRF.out.frozen 4⟩
              go_wp2
              obtain ⟨e0, e1, e2, e3, e4⟩ := three_five HKRF.out (.int .i64 0) (.int .i64 0) (.int .i64 0) (.int .i64 0) (.int .i32 0)
              exact bodyPost_ret (v := .tuple #[.agg #[.int .i64 0, .int .i64 0, .int .i64 0, .int .i64 0, .int .i32 0], .int .i64 11]) (by simp [results, Tryd.results18, go_sem, e0, e1, e2, e3, e4]) rfl ⟨rfl, five_in HBEF.out (Nat.le_refl _) _ _ _ _ _⟩
            | true =>
              have HS2 := Lib.hid (HD2.out (by trivial) (by trivial))
              obtain ⟨n0, n1, n2, n3⟩ := HKN6.out.c4n
              obtain ⟨f0, f1, f2, f3⟩ : _ ∧ _ ∧ _ ∧ _ := ⟨HKN6.out.frozen 0, HKN6.out.frozen 1, HKN6.out.frozen 2, HKN6.out.frozen 3⟩
              have HST : Hid (∀ u, Blk (w6.setCell ⟨w2.heap.size + 1, 2, none⟩ u) (w2.heap.size + 1) (#[.int .i64 x0, .int .i64 x1, .int .i64 0, .int .i64 0].setIfInBounds 2 u) 61) := Lib.hid (fun u => HKN6.out.set 2 u)
              have HSR : Hid (∀ u, Blk (w6.setCell ⟨w2.heap.size + 1, 2, none⟩ u) w.heap.size #[.int .i64 0, .int .i64 0, .int .i64 0, .int .i64 0, .int .i32 0] 24) := Lib.hid (fun u => set_other HKR6.out (by have := HLW.out; omega))
              have HSO : Hid (∀ u, Blk (w6.setCell ⟨w2.heap.size + 1, 2, none⟩ u) w2.heap.size #[.int .i64 op, .string nm, .string lt] 56) := Lib.hid (fun u => set_other HKO6.out (by omega))
              have HSB : Hid (∀ u, Below w.heap.size w (w6.setCell ⟨w2.heap.size + 1, 2, none⟩ u)) := Lib.hid (fun u => HB6.out.setCell (by have := HLW.out; show _ ≤ w2.heap.size + 1; omega) u)
              clear HF2 HD2
              go_wp2
              go_roundw
              case rel => exact ⟨2 + 1, _, (nextU ru).2, by decide, by rfl, rfl, HZ2.out.2, HS2.out, HSR.out _, HSO.out _, HST.out _, HSB.out _⟩
              case measure => decide
      · obtain ⟨x0, x1, x2, rfl⟩ : ∃ x0 x1 x2, vs = [x0, x1, x2] := len3 hlen
        clear hlen
        have HKN2 : Hid (Blk wr (w2.heap.size + 1) #[.int .i64 x0, .int .i64 x1, .int .i64 x2, .int .i64 0] 61) := HKN
        have HFLK := Lib.hid (HFL.out 3 _ _ (by decide) HPS.out)
        have HRDK := Lib.hid (HRD.out 3 _ _ (by decide) HPS.out)
        have HSQP := Lib.hid (HSK.out 3 _ _ (by decide) HPS.out)
        obtain ⟨U, hU⟩ : ∃ U, UB 3 = U := ⟨_, rfl⟩
        rw [hU] at HU3 HFLK HRDK HSQP
        have HBA := Lib.hid (fun o => bal HBE.out o)
        have HKOA := Lib.hid (fun o => HKO.out.alloc o)
        have HKFA := Lib.hid (Blk.new wr #[.string ⟨#[105]⟩, .int .i64 (-2147483648), .int .i64 2147483647] 65)
        have HKRA := Lib.hid (fun o => HKR.out.alloc o)
        have HKNA := Lib.hid (fun o => HKN2.out.alloc o)
        clear hU HKN
        obtain ⟨o0, o1, o2⟩ := (HKOA.out (.cells #[.string ⟨#[105]⟩, .int .i64 (-2147483648), .int .i64 2147483647] 65)).c3
        go_wp2_with fail
        refine (HU3.out _).mono ?_
        rintro e w3 ⟨rfl, hb3⟩
        clear o0 o1 o2
        have HB3 := Lib.hid ((HBA.out (.cells #[.string ⟨#[105]⟩, .int .i64 (-2147483648), .int .i64 2147483647] 65)).trans (hb3.mono (HBA.out _).size))
        have HKO3 := Lib.hid ((HKOA.out (.cells #[.string ⟨#[105]⟩, .int .i64 (-2147483648), .int .i64 2147483647] 65)).later hb3)
        have HKF3 := Lib.hid (HKFA.out.later hb3)
        have HKR3 := Lib.hid ((HKRA.out (.cells #[.string ⟨#[105]⟩, .int .i64 (-2147483648), .int .i64 2147483647] 65)).later hb3)
        have HKN3 := Lib.hid ((HKNA.out (.cells #[.string ⟨#[105]⟩, .int .i64 (-2147483648), .int .i64 2147483647] 65)).later hb3)
        clear hb3 HBA HKOA HKFA HKRA HKNA HBE HKO HKR HKN2
        cases U with
        | false =>
          have HS2 := Lib.hid (HSQP.out rfl)
          clear HFLK HRDK HSQP
          go_wp2
          go_roundw
          case rel => exact ⟨3 + 1, _, ru, by decide, by rfl, rfl, HRZ.out, HS2.out, HKR3.out, HKO3.out, HKN3.out, HB3.out⟩
          case measure => decide
        | true =>
          have HNX1 := Lib.hid (fun w1 h1 => HNX.out ru w1 HRZ.out h1)
          have HZ2 := Lib.hid (next_sz HRZ.out)
          have HF2 := Lib.hid (HFLK.out rfl)
          have HD2 := Lib.hid (HRDK.out rfl)
          have HNUM := Lib.hid (fun w1 h1 => HNU.out (mkB (nextU ru).1) w1 HZ2.out.1 h1)
          clear HFLK HRDK HSQP
          obtain ⟨P, hP⟩ : ∃ P, mkB (nextU ru).1 = P := ⟨_, rfl⟩
          rw [hP] at HNX1 HF2 HD2 HNUM
          obtain ⟨⟨X, KN⟩, hX⟩ : ∃ p, numP P = p := ⟨_, rfl⟩
          rw [hX] at HNUM HF2 HD2
          simp only at HNUM HF2 HD2
          clear hX
          obtain ⟨TV, hTV⟩ : ∃ TV, TKB 3 X = TV := ⟨_, rfl⟩
          have HTV := Lib.hid (HT13.out X)
          rw [hTV] at HTV HF2 HD2
          clear hP hTV
          go_wp2_with fail
          refine (HNX1.out _ (HT1.out _ HB3.out)).mono ?_
          rintro e w4 ⟨rfl, hb4⟩
          have HB4 := Lib.hid (HB3.out.trans (hb4.mono HB3.out.size))
          have HKO4 := Lib.hid (HKO3.out.later hb4)
          have HKF4 := Lib.hid (HKF3.out.later hb4)
          have HKR4 := Lib.hid (HKR3.out.later hb4)
          have HKN4 := Lib.hid (HKN3.out.later hb4)
          clear hb4 HB3 HKO3 HKF3 HKR3 HKN3
          go_wp2_with fail
          refine (HNUM.out _ (HT1.out _ HB4.out)).mono ?_
          rintro e w5 ⟨rfl, hb5⟩
          have HB5 := Lib.hid (HB4.out.trans (hb5.mono HB4.out.size))
          have HKO5 := Lib.hid (HKO4.out.later hb5)
          have HKF5 := Lib.hid (HKF4.out.later hb5)
          have HKR5 := Lib.hid (HKR4.out.later hb5)
          have HKN5 := Lib.hid (HKN4.out.later hb5)
          clear hb5 HB4 HKO4 HKF4 HKR4 HKN4 HNX1 HNUM
          cases KN with
          | false =>
            obtain rfl := HF2.out (.inl rfl)
            have HKRF := HKR5
            have HBEF := HB5
            clear HF2 HD2
            obtain ⟨p0, p1, p2, p3, p4⟩ := cells5e HKRF.out
            obtain ⟨f0, f1, f2, f3, f4⟩ : _ ∧ _ ∧ _ ∧ _ ∧ _ := ⟨HKRF.out.frozen 0, HKRF.out.frozen 1, HKRF.out.frozen 2, HKRF.out.frozen 3, HKRF.out.frozen 4⟩
            go_wp2
            obtain ⟨e0, e1, e2, e3, e4⟩ := three_five HKRF.out (.int .i64 0) (.int .i64 0) (.int .i64 0) (.int .i64 0) (.int .i32 0)
            exact bodyPost_ret (v := .tuple #[.agg #[.int .i64 0, .int .i64 0, .int .i64 0, .int .i64 0, .int .i32 0], .int .i64 11]) (by simp [results, Tryd.results18, go_sem, e0, e1, e2, e3, e4]) rfl ⟨rfl, five_in HBEF.out (Nat.le_refl _) _ _ _ _ _⟩
          | true =>
            obtain ⟨o0, o1, o2⟩ := HKO5.out.c3
            obtain ⟨g0, g1, g2⟩ := HKF5.out.c3
            go_wp2_with fail
            refine (HTV.out _).mono ?_
            rintro e w6 ⟨rfl, hb6⟩
            clear o0 o1 o2 g0 g1 g2
            have HB6 := Lib.hid (HB5.out.trans (hb6.mono HB5.out.size))
            have HKO6 := Lib.hid (HKO5.out.later hb6)
            have HKR6 := Lib.hid (HKR5.out.later hb6)
            have HKN6 := Lib.hid (HKN5.out.later hb6)
            clear hb6 HB5 HKO5 HKF5 HKR5 HKN5 HTV
            cases TV with
            | false =>
              obtain rfl := HF2.out (.inr rfl)
              have HKRF := HKR6
              have HBEF := HB6
              clear HF2 HD2
              obtain ⟨p0, p1, p2, p3, p4⟩ := cells5e HKRF.out
              obtain ⟨f0, f1, f2, f3, f4⟩ : _ ∧ _ ∧ _ ∧ _ ∧ _ := ⟨HKRF.out.frozen 0, HKRF.out.frozen 1, HKRF.out.frozen 2, HKRF.out.frozen 3, HKRF.out.frozen 4⟩
              go_wp2
              obtain ⟨e0, e1, e2, e3, e4⟩ := three_five HKRF.out (.int .i64 0) (.int .i64 0) (.int .i64 0) (.int .i64 0) (.int .i32 0)
              exact bodyPost_ret (v := .tuple #[.agg #[.int .i64 0, .int .i64 0, .int .i64 0, .int .i64 0, .int .i32 0], .int .i64 11]) (by simp [results, Tryd.results18, go_sem, e0, e1, e2, e3, e4]) rfl ⟨rfl, five_in HBEF.out (Nat.le_refl _) _ _ _ _ _⟩
            | true =>
              have HS2 := Lib.hid (HD2.out (by trivial) (by trivial))
              obtain ⟨n0, n1, n2, n3⟩ := HKN6.out.c4n
              obtain ⟨f0, f1, f2, f3⟩ : _ ∧ _ ∧ _ ∧ _ := ⟨HKN6.out.frozen 0, HKN6.out.frozen 1, HKN6.out.frozen 2, HKN6.out.frozen 3⟩
              have HST : Hid (∀ u, Blk (w6.setCell ⟨w2.heap.size + 1, 3, none⟩ u) (w2.heap.size + 1) (#[.int .i64 x0, .int .i64 x1, .int .i64 x2, .int .i64 0].setIfInBounds 3 u) 61) := Lib.hid (fun u => HKN6.out.set 3 u)
              have HSR : Hid (∀ u, Blk (w6.setCell ⟨w2.heap.size + 1, 3, none⟩ u) w.heap.size #[.int .i64 0, .int .i64 0, .int .i64 0, .int .i64 0, .int .i32 0] 24) := Lib.hid (fun u => set_other HKR6.out (by have := HLW.out; omega))
              have HSO : Hid (∀ u, Blk (w6.setCell ⟨w2.heap.size + 1, 3, none⟩ u) w2.heap.size #[.int .i64 op, .string nm, .string lt] 56) := Lib.hid (fun u => set_other HKO6.out (by omega))
              have HSB : Hid (∀ u, Below w.heap.size w (w6.setCell ⟨w2.heap.size + 1, 3, none⟩ u)) := Lib.hid (fun u => HB6.out.setCell (by have := HLW.out; show _ ≤ w2.heap.size + 1; omega) u)
              clear HF2 HD2
              go_wp2
              go_roundw
              case rel => exact ⟨3 + 1, _, (nextU ru).2, by decide, by rfl, rfl, HZ2.out.2, HS2.out, HSR.out _, HSO.out _, HST.out _, HSB.out _⟩
              case measure => decide
      · obtain ⟨a, b, c, m, rfl, ⟨m0, m1⟩, hE1, hE2⟩ := HEN.out _ _ HPS.out
        clear hlen
        have HKN2 : Hid (Blk wr (w2.heap.size + 1) #[.int .i64 a, .int .i64 b, .int .i64 c, .int .i64 m] 61) := HKN
        have HNX1 := Lib.hid (fun w1 h1 => HNX.out ru w1 HRZ.out h1)
        have HIO1 := Lib.hid (fun w1 => HIO.out a b c m w1 m0 m1)
        simp only [In.ival] at HIO1
        have HE1 := Lib.hid hE1
        have HE2 := Lib.hid hE2
        clear hE1 hE2 HKN m0 m1
        by_cases hne : (nextU ru).1 = []
        · obtain rfl := HE1.out hne
          have hP : mkB (nextU ru).1 = ⟨#[]⟩ := by rw [hne]; rfl
          rw [hP] at HNX1
          clear hP hne HE1 HE2
          go_wp2_with fail
          refine (HNX1.out _ (HT1.out _ HBE.out)).mono ?_
          rintro e w4 ⟨rfl, hb4⟩
          have HB4 := Lib.hid (HBE.out.trans (hb4.mono HBE.out.size))
          have HKO4 := Lib.hid (HKO.out.later hb4)
          have HKR4 := Lib.hid (HKR.out.later hb4)
          have HKN4 := Lib.hid (HKN2.out.later hb4)
          clear hb4
          obtain ⟨o0, o1, o2⟩ := HKO4.out.c3
          obtain ⟨n0, n1, n2, n3⟩ := HKN4.out.c4n
          go_wp2_with fail
          refine (HIO1.out _).mono ?_
          rintro e w5 ⟨rfl, hb5⟩
          clear o0 o1 o2 n0 n1 n2 n3
          have HBEF := Lib.hid (HB4.out.trans (hb5.mono HB4.out.size))
          have HKRF := Lib.hid (HKR4.out.later hb5)
          clear hb5
          obtain ⟨p0, p1, p2, p3, p4⟩ := cells5e HKRF.out
          obtain ⟨f0, f1, f2, f3, f4⟩ : _ ∧ _ ∧ _ ∧ _ ∧ _ := ⟨HKRF.out.frozen 0, HKRF.out.frozen 1, HKRF.out.frozen 2, HKRF.out.frozen 3, HKRF.out.frozen 4⟩
          go_wp2
          obtain ⟨e0, e1, e2, e3, e4⟩ := three_five HKRF.out (.int .i64 op) (.int .i64 a) (.int .i64 b) (.int .i64 c) (.int .i32 m)
          exact bodyPost_ret (v := .tuple #[.agg #[.int .i64 op, .int .i64 a, .int .i64 b, .int .i64 c, .int .i32 m], .int .i64 0]) (by simp [results, Tryd.results18, go_sem, e0, e1, e2, e3, e4]) rfl ⟨rfl, five_in HBEF.out (Nat.le_refl _) _ _ _ _ _⟩
        · obtain rfl := HE2.out hne
          have hP := mkB_ne hne
          obtain ⟨P, hPP⟩ : ∃ P, mkB (nextU ru).1 = P := ⟨_, rfl⟩
          rw [hPP] at HNX1 hP
          clear hPP hne HE1 HE2
          go_wp2_with fail
          refine (HNX1.out _ (HT1.out _ HBE.out)).mono ?_
          rintro e w4 ⟨rfl, hb4⟩
          have HBEF := Lib.hid (HBE.out.trans (hb4.mono HBE.out.size))
          have HKRF := Lib.hid (HKR.out.later hb4)
          clear hb4
          obtain ⟨p0, p1, p2, p3, p4⟩ := cells5e HKRF.out
          obtain ⟨f0, f1, f2, f3, f4⟩ : _ ∧ _ ∧ _ ∧ _ ∧ _ := ⟨HKRF.out.frozen 0, HKRF.out.frozen 1, HKRF.out.frozen 2, HKRF.out.frozen 3, HKRF.out.frozen 4⟩
          go_wp2
          obtain ⟨e0, e1, e2, e3, e4⟩ := three_five HKRF.out (.int .i64 0) (.int .i64 0) (.int .i64 0) (.int .i64 0) (.int .i32 0)
          exact bodyPost_ret (v := .tuple #[.agg #[.int .i64 0, .int .i64 0, .int .i64 0, .int .i64 0, .int .i32 0], .int .i64 11]) (by simp [results, Tryd.results18, go_sem, e0, e1, e2, e3, e4]) rfl ⟨rfl, five_in HBEF.out (Nat.le_refl _) _ _ _ _ _⟩
end Go.Proofs.YtjpbbonkmnbabaaDoor
