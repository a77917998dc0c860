/-
  What is proved here: next, number, ignored of package isa; the library's FormatInt in our words.
  Conditions: the listed variables hold what they hold (Tb); texts of at most a million bytes.
-/
import Derived.Test.YtjpbbonkmnbabaaDoorIsaPl
import Derived.Lib.AtoiErrMem
import Derived.Lib.QuietBelow
namespace Go.Proofs.YtjpbbonkmnbabaaDoor
open Go.RowKit
set_option linter.unusedVariables false
set_option linter.unusedSimpArgs false

theorem bdrewN (w : World) (n : Nat) : Below w.heap.size w (w.drewN n) := ⟨rfl, rfl, rfl, Nat.le_refl _, fun _ _ => rfl⟩
theorem fmt_ok (n : Int) (h0 : -9223372036854775808 ≤ n) (h1 : n ≤ 9223372036854775807) (w : World) (hT : Tb w) :
    Calls Tryd.prog 26 #[.int .i64 n, .int .i64 10] w fun e w' => e = .returned (.string (numberI n)) ∧ Below w.heap.size w w' := by
  refine (Any.strconv_FormatInt_10 Tryd.laysM173 n h0 h1 w hT.tab).mono ?_
  rintro e w' ⟨rfl, k, os, rfl⟩
  refine ⟨by rw [itoa_mk], ⟨rfl, rfl, rfl, ?_, ?_⟩⟩
  · show w.heap.size ≤ (w.heap ++ os).size
    rw [Array.size_append]; omega
  · intro j hj
    show (w.heap ++ os)[j]? = w.heap[j]?
    rw [Array.getElem?_append_left hj]
theorem trim_ok (s : ByteArray) (w : World) :
    Calls Tryd.prog 45 #[.string s, .string ⟨#[32]⟩] w fun e w' => e = .returned (.string (mkB (s.data.toList.dropWhile (· == 32)))) ∧ w' = w :=
  (Tryd.strings_TrimLeft_one s 32 (by decide) w).mono fun e w' h => ⟨h.1, h.2⟩
theorem drop_size (s : ByteArray) : (mkB (s.data.toList.dropWhile (· == 32))).size ≤ s.size := by
  rw [mkB_size]
  have h1 := (List.dropWhile_sublist (· == 32) (l := s.data.toList)).length_le
  have h2 : s.data.toList.length = s.size := by rw [Array.length_toList]; rfl
  omega
theorem cut_ok (s : ByteArray) (w : World) (hs : s.size < 4294967281) (hT : Tb w) :
    Calls Tryd.prog 44 #[.string s, .string ⟨#[32]⟩] w fun e w' => ∃ b, e = .returned (.tuple #[.string (mkB (s.data.toList.takeWhile (· != 32))), .string (mkB ((s.data.toList.dropWhile (· != 32)).drop 1)), .bool b]) ∧ Below w.heap.size w w' := by
  obtain ⟨m, hm⟩ := hT.ml
  refine (Tryd.strings_Cut s ⟨#[32]⟩ m w hs hm).mono ?_
  rintro e w' ⟨rfl, n, rfl⟩
  obtain ⟨h1, h2⟩ := cut_next s.data.toList
  refine ⟨(Lib.cut s.data.toList [32]).2.2, ?_, bdrewN w n⟩
  rw [show (⟨#[32]⟩ : ByteArray).data.toList = [32] from rfl, h1, h2]; rfl
set_option maxRecDepth 100000 in
set_option maxHeartbeats 1600000 in
theorem next_ok (s : ByteArray) (w : World) (hs : s.size ≤ 1000000) (hT : Tb w) :
    Calls Tryd.prog 30 #[.string s] w fun e w' => e = .returned (.tuple #[.string (mkB (nextU s.data.toList).1), .string (mkB (nextU s.data.toList).2)]) ∧ Below w.heap.size w w' := by
  have HT := Lib.hid (trim_ok s)
  have hsz := drop_size s
  have HC := Lib.hid (fun w1 h1 => cut_ok (mkB (s.data.toList.dropWhile (· == 32))) w1 (by omega) h1)
  rw [mkB_data] at HC
  have HTB := Lib.hid hT
  unfold nextU
  simp only
  generalize mkB (s.data.toList.dropWhile (· == 32)) = R at HT HC
  generalize mkB ((s.data.toList.dropWhile (· == 32)).takeWhile (· != 32)) = P1 at HC ⊢
  generalize mkB (((s.data.toList.dropWhile (· == 32)).dropWhile (· != 32)).drop 1) = P2 at HC ⊢
  clear hsz hT
  go_enter Tryd.func30, Tryd.ntmps30
  go_wp2_with fail
  refine (HT.out _).mono ?_
  rintro e w1 ⟨rfl, rfl⟩
  go_wp2_with fail
  refine (HC.out _ HTB.out).mono ?_
  rintro e w2 ⟨b, rfl, hb⟩
  go_wp2
  go_ret2
  exact ⟨rfl, hb⟩
set_option maxRecDepth 100000 in
set_option maxHeartbeats 1600000 in
theorem number_ok (s : ByteArray) (w : World) (hs : s.size ≤ 1000000) (hT : Tb w) :
    Calls Tryd.prog 33 #[.string s] w fun e w' => e = .returned (.tuple #[.int .i64 (numP s).1, .bool (numP s).2]) ∧ Below w.heap.size w w' := by
  unfold numP
  cases hp : Lib.parseIntB 64 s.data.toList
  case ok v =>
    have hb := Lib.parseIntB_bounds hp
    have hb1 : -9223372036854775808 ≤ v ∧ v ≤ 9223372036854775807 := by
      have : (2 : Nat) ^ (64 - 1) = 9223372036854775808 := by decide
      rw [this] at hb; omega
    have HP := Lib.hid (fun w1 => Any.strconv_ParseInt_10_at64_ok Tryd.laysC174 s (by omega) v hp w1)
    have HF := Lib.hid (fun w1 h1 => fmt_ok v hb1.1 hb1.2 w1 h1)
    have HTB := Lib.hid hT
    simp only
    clear hp hb hT
    generalize numberI v = NV at HF ⊢
    by_cases he : NV = s
    · subst he
      rw [if_pos rfl]
      go_enter Tryd.func33, Tryd.ntmps33
      go_wp2_with fail
      refine (HP.out _).mono ?_
      rintro e w1 ⟨rfl, hw1⟩
      have hb1 : Below w.heap.size w w1 := by
        rcases hw1 with rfl | ⟨t, rfl⟩
        · exact Below.refl _ _
        · exact Lib.bytesWorld_below w 5 t
      have HB1 := Lib.hid hb1
      clear hw1 hb1
      go_wp2_with fail
      refine (HF.out _ (HTB.out.later HB1.out)).mono ?_
      rintro e w2 ⟨rfl, hb2⟩
      have HB2 := Lib.hid (HB1.out.trans (hb2.mono HB1.out.size))
      clear hb2
      go_wp2
      go_ret2
      exact ⟨rfl, HB2.out⟩
    · rw [if_neg he]
      have hne := str_ne he
      go_enter Tryd.func33, Tryd.ntmps33
      go_wp2_with fail
      refine (HP.out _).mono ?_
      rintro e w1 ⟨rfl, hw1⟩
      have hb1 : Below w.heap.size w w1 := by
        rcases hw1 with rfl | ⟨t, rfl⟩
        · exact Below.refl _ _
        · exact Lib.bytesWorld_below w 5 t
      have HB1 := Lib.hid hb1
      clear hw1 hb1
      go_wp2_with fail
      refine (HF.out _ (HTB.out.later HB1.out)).mono ?_
      rintro e w2 ⟨rfl, hb2⟩
      have HB2 := Lib.hid (HB1.out.trans (hb2.mono HB1.out.size))
      clear hb2
      go_wp2
      go_ret2
      exact ⟨rfl, HB2.out⟩
  case range =>
    obtain ⟨te, pe, hv⟩ := hT.rg
    have HP := Lib.hid (Any.strconv_ParseInt_10_at64_range Tryd.laysC174 s (by omega) hp _ w hv (.inr ⟨te, pe, rfl⟩))
    simp only
    clear hp hT hv
    generalize Lib.intSat 64 s.data.toList = SV at HP
    go_enter Tryd.func33, Tryd.ntmps33
    go_wp2_with fail
    refine HP.out.mono ?_
    rintro e w1 ⟨n, rfl, -, -, hb1⟩
    have HB1 := Lib.hid hb1
    clear hb1
    go_wp2
    go_ret2
    exact ⟨rfl, HB1.out⟩
  all_goals
    obtain ⟨te, pe, hv⟩ := hT.sy
    have HP := Lib.hid (Any.strconv_ParseInt_10_at64_syntax Tryd.laysC174 s (by omega) hp _ w hv (.inr ⟨te, pe, rfl⟩))
    simp only
    clear hp hT hv
    go_enter Tryd.func33, Tryd.ntmps33
    go_wp2_with fail
    refine HP.out.mono ?_
    rintro e w1 ⟨n, rfl, -, -, hb1⟩
    have HB1 := Lib.hid hb1
    clear hb1
    go_wp2
    go_ret2
    exact ⟨rfl, HB1.out⟩
set_option maxRecDepth 100000 in
set_option maxHeartbeats 1600000 in
theorem ignored_ok (s : ByteArray) (w : World) :
    Calls Tryd.prog 39 #[.string s] w fun e w' => e = .returned (.bool (skipI s)) ∧ w = w' := by
  have HT := Lib.hid (trim_ok s)
  rcases dropWhile_head s.data.toList with h | ⟨c, r, h, hc⟩
  · rw [skip_blank h]
    rw [h] at HT
    have hR : mkB [] = ⟨#[]⟩ := rfl
    rw [hR] at HT
    clear h hR
    go_enter Tryd.func39, Tryd.ntmps39
    go_wp2_with fail
    refine (HT.out _).mono ?_
    rintro e w1 ⟨rfl, rfl⟩
    go_wp2
    go_ret
    exact ⟨rfl, rfl⟩
  · rw [skip_first h]
    rw [h] at HT
    have hsz : (mkB (c :: r)).size = r.length + 1 := by rw [mkB_size]; rfl
    have hem : (mkB (c :: r)).toList.isEmpty = false := by rw [list_data, mkB_data]; rfl
    have hget : ∀ (hh : 0 < (mkB (c :: r)).size), (mkB (c :: r))[0]'hh = c := fun _ => rfl
    obtain ⟨R, hR⟩ : ∃ R, mkB (c :: r) = R := ⟨_, rfl⟩
    rw [hR] at HT hsz hem hget
    have h0 : 0 < R.size := by omega
    have hix : ∀ w, (Instr.index 9 (.string R) (.int .i64 0)).run Tryd.prog w = .ok (.int .u8 (c.toNat : Int)) w := fun w => by
      have := run_index_string (P := Tryd.prog) 9 R .i64 0 Tryd.underlying9 (w := w)
      rw [this]
      simp [h0, hget]
    have hcmp : ((c.toNat : Int) == 35) = (c == 35) := by
      by_cases e : c = 35
      · subst e; rfl
      · have e2 : ¬ ((c.toNat : Int) = 35) := fun h => e (UInt8.toNat_inj.1 (by rw [show (35 : UInt8).toNat = 35 from rfl]; omega))
        rw [beq_eq_false_iff_ne.2 e2, beq_eq_false_iff_ne.2 e]
    obtain ⟨B, hB⟩ : ∃ B, (c == 35) = B := ⟨_, rfl⟩
    rw [hB] at hcmp ⊢
    clear h hR hsz hget h0 hB
    go_enter Tryd.func39, Tryd.ntmps39
    go_wp2_with fail
    refine (HT.out _).mono ?_
    rintro e w1 ⟨rfl, rfl⟩
    cases B with
    | false =>
      go_wp2
      go_ret
      exact ⟨rfl, rfl⟩
    | true =>
      go_wp2
      go_ret
      exact ⟨rfl, rfl⟩
end Go.Proofs.YtjpbbonkmnbabaaDoor
