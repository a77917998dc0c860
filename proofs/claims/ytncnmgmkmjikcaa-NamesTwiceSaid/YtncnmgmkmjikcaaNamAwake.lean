/-
  What is proved here: the document's example holds: 'awake' returns true, and writes nothing that was there; 'long' tells whether there are more than 60 names, or one of more than 2000 bytes.
  Conditions: none but that the arguments are values of their types.
-/
import Derived.Test.YtncnmgmkmjikcaaNamRef
import Derived.Test.YtncnmgmkmjikcaaNamAt
namespace Go.Proofs.Ytncnmgmkmjikcaa
open Go.RowKit
set_option linter.unusedVariables false

/-! ### long -/
set_option maxHeartbeats 400000 in
theorem long_no (B : Nat) (a : Option Addr) (len cap : Nat) (L : List ByteArray) (w : World) (hs : Strs w B a len L) (hl : len ≤ 60) (hsz : ∀ i, (nm L i).size ≤ 2000) :
    Calls Try.prog 14 #[.slice a len cap] w fun e w' => e = .returned (.bool false) ∧ w = w' := by
  have HS := Lib.hid hs
  have HZ := Lib.hid hsz
  have hli : (len : Int) ≤ 60 := by omega
  clear hs hsz
  go_enter Try.func14, Try.ntmps14
  go_wp2
  go_loop [3] (fun i => ∃ k : Nat, k ≤ len ∧ i = .int .i64 k) (fun i => len - (intOf i).toNat)
  case atStart => exact ⟨0, Nat.zero_le _, rfl⟩
  case round =>
    obtain ⟨k, hk, rfl⟩ := hrel
    by_cases hlt : k < len
    · obtain ⟨b, off, rfl, _, hcell⟩ := HS.out.2 (by omega)
      obtain ⟨s, hsn⟩ : ∃ s, s = nm L k := ⟨_, rfl⟩
      have hc : w.cell? ⟨b, off + k, none⟩ = some (.string s) := hsn ▸ hcell k hlt
      have hss : (s.size : Int) ≤ 2000 := by have := HZ.out k; rw [hsn]; omega
      clear hcell hsn
      go_wp2
      go_round
      case rel => exact ⟨k + 1, by omega, by go_num⟩
      case measure => simp [intOf]; omega
    · obtain rfl : k = len := by omega
      go_wp2
      go_ret
      exact ⟨rfl, rfl⟩
set_option maxHeartbeats 400000 in
theorem long_many (a : Option Addr) (len cap : Nat) (w : World) (hl : 60 < len) (hl2 : (len : Int) ≤ 9223372036854775807) :
    Calls Try.prog 14 #[.slice a len cap] w fun e w' => e = .returned (.bool true) ∧ w = w' := by
  have hli : (60 : Int) < len := by omega
  go_enter Try.func14, Try.ntmps14
  go_wp2
  go_ret
  exact ⟨rfl, rfl⟩
set_option maxHeartbeats 400000 in
theorem long_big (B : Nat) (a : Option Addr) (len cap : Nat) (L : List ByteArray) (w : World) (n : Nat) (hs : Strs w B a len L) (hl : len ≤ 60) (hm : ∀ i, (nm L i).size ≤ maxLen) (hn : n < len) (hb : 2000 < (nm L n).size) (hsz : ∀ i, i < n → (nm L i).size ≤ 2000) :
    Calls Try.prog 14 #[.slice a len cap] w fun e w' => e = .returned (.bool true) ∧ w = w' := by
  obtain ⟨b, off, rfl, _, hcell⟩ := hs.2 (by omega)
  have HZ := Lib.hid hsz
  have HL := Lib.hid hcell
  have HB := Lib.hid hb
  have HM := Lib.hid hm
  have hli : (len : Int) ≤ 60 := by omega
  clear hs hsz hcell hb hm
  go_enter Try.func14, Try.ntmps14
  go_wp2
  go_loop [3] (fun i => ∃ k : Nat, k ≤ n ∧ i = .int .i64 k) (fun i => len - (intOf i).toNat)
  case atStart => exact ⟨0, Nat.zero_le _, rfl⟩
  case round =>
    obtain ⟨k, hk, rfl⟩ := hrel
    have hkl : k < len := by omega
    obtain ⟨s, hsn⟩ : ∃ s, s = nm L k := ⟨_, rfl⟩
    have hc : w.cell? ⟨b, off + k, none⟩ = some (.string s) := hsn ▸ HL.out k hkl
    by_cases hlt : k < n
    · have hss : (s.size : Int) ≤ 2000 := by have := HZ.out k hlt; rw [hsn]; omega
      clear hsn
      go_wp2
      go_round
      case rel => exact ⟨k + 1, by omega, by go_num⟩
      case measure => simp [intOf]; omega
    · obtain rfl : k = n := by omega
      have hss : (2000 : Int) < (s.size : Int) := by have := HB.out; rw [hsn]; omega
      have hs2 : (s.size : Int) ≤ 9223372036854775807 := by have := HM.out k; unfold maxLen at this; rw [hsn]; omega
      clear hsn
      go_wp2
      go_ret
      exact ⟨rfl, rfl⟩
/-- The two ways of 'long'. -/
theorem long_or (L : List ByteArray) (len : Nat) (hl : L.length = len) : (∀ i, (nm L i).size ≤ 2000) ∨ ∃ n, n < len ∧ 2000 < (nm L n).size ∧ ∀ i, i < n → (nm L i).size ≤ 2000 := by
  have h : ∀ m, (∀ i, i < m → (nm L i).size ≤ 2000) ∨ ∃ n, n < m ∧ 2000 < (nm L n).size ∧ ∀ i, i < n → (nm L i).size ≤ 2000 := by
    intro m
    induction m with
    | zero => exact .inl fun i hi => absurd hi (Nat.not_lt_zero _)
    | succ m ih =>
      rcases ih with h | ⟨n, h1, h2⟩
      · by_cases h3 : (nm L m).size ≤ 2000
        · refine .inl fun i hi => ?_
          rcases Nat.lt_succ_iff_lt_or_eq.1 hi with h4 | rfl
          · exact h i h4
          · exact h3
        · exact .inr ⟨m, by omega, by omega, h⟩
      · exact .inr ⟨n, by omega, h2⟩
  rcases h len with h1 | h1
  · refine .inl fun i => ?_
    by_cases hi : i < len
    · exact h1 i hi
    · unfold nm; rw [List.getD_eq_getElem?_getD, List.getElem?_eq_none (by omega)]; exact Nat.zero_le _
  · exact .inr h1

/-! ### awake -/
def ex : List ByteArray := [⟨#[97]⟩, ⟨#[98, 99]⟩, ⟨#[97]⟩]
theorem ex_tab : tab ex ex.length = [0, 97, 0, 98, 99, 0] := by decide
theorem ex_outs : outs ex ex.length = [1, 3, 1] := by decide
theorem ex_clean : Clean ex := by
  intro i hi
  have : i = 0 ∨ i = 1 ∨ i = 2 := by have : ex.length = 3 := rfl; omega
  rcases this with rfl | rfl | rfl <;> (intro j hj; have h2 := hj; revert h2 j; decide)
theorem ex_size : ∀ i, (nm ex i).size ≤ maxLen := by
  intro i
  have : i = 0 ∨ i = 1 ∨ i = 2 ∨ 3 ≤ i := by omega
  rcases this with rfl | rfl | rfl | h
  · decide
  · decide
  · decide
  · unfold nm; rw [List.getD_eq_getElem?_getD, List.getElem?_eq_none (by exact h)]; exact Nat.zero_le _
theorem Strs.alloc_new (w : World) (L : List ByteArray) (t : TypeId) : Strs (w.alloc (.cells (L.map Value.string).toArray t)) (w.heap.size + 1) (some ⟨w.heap.size, 0, none⟩) L.length L := by
  refine ⟨rfl, fun h => ⟨w.heap.size, 0, rfl, by omega, fun i hi => ?_⟩⟩
  rw [Nat.zero_add, World.cell?_alloc_at _ _ _ _ rfl]
  have := getElem_map_str hi
  simpa using this
theorem build_ex (w : World) :
    Calls Try.prog 15 #[.slice (some ⟨w.heap.size, 0, none⟩) 3 3] (w.alloc (.cells #[.string ⟨#[97]⟩, .string ⟨#[98, 99]⟩, .string ⟨#[97]⟩] 9)) fun e w' =>
      ∃ ta tc pa pc, e = .returned (.tuple #[.slice ta 6 tc, .slice (some ⟨pa, 0, none⟩) 3 pc, .int .i64 0]) ∧ 6 ≤ tc ∧ (tc : Int) ≤ 9223372036854775807 ∧ Bys w' w'.heap.size ta 6 [0, 97, 0, 98, 99, 0] ∧
        w'.cell? ⟨pa, 1, none⟩ = some (.int .u64 3) ∧ w'.cell? ⟨pa, 2, none⟩ = some (.int .u64 1) ∧ Below w.heap.size w w' := by
  have hs := Strs.alloc_new w ex 9
  refine (build_any (w.heap.size + 1) _ 3 3 ex _ hs (by simp) (by decide) ex_size ex_clean).mono ?_
  rintro e w' ⟨hb, ⟨h, _⟩ | ⟨_, ta, tc, pa, pc, rfl, hv, hu⟩⟩
  · rw [ex_tab] at h; exact absurd h (by decide)
  · rw [ex_tab] at *
    rw [ex_outs] at hu
    obtain ⟨g, c, hp, _⟩ := own_some hu (by decide)
    injection hp with hp1 hp2 hp3
    subst hp1
    have h1 := hu.cellAt 1 (by decide)
    have h2 := hu.cellAt 2 (by decide)
    have hcap : 6 ≤ tc ∧ tc ≤ maxLen := by
      rcases hv.2 with ⟨hx, _⟩ | ⟨g, c, cur, hx, _, _, h3, h4, _⟩
      · injection hx with _ hx; cases hx
      · injection hx with _ _ hx; subst hx; exact ⟨h3, h4⟩
    refine ⟨ta, tc, g, pc, rfl, hcap.1, by have := hcap.2; unfold maxLen at this; omega, Bys.own (by decide) hv, h1, h2, ?_⟩
    exact ((Below.refl _ _).alloc (Nat.le_refl _) _).trans (hb.mono (by simp))

set_option maxHeartbeats 800000 in
theorem awake_any (w : World) :
    Calls Try.prog 9 #[] w fun e w' => e = .returned (.bool true) ∧ Below w.heap.size w w' := by
  go_enter Try.func9, Try.ntmps9
  go_wp2_with (go_at_call 15; refine (build_ex _).mono ?_)
  rintro e w1 ⟨ta, tc, pa, pc, rfl, hc1, hc2, hby, h1, h2, hb⟩
  have HBY := Lib.hid hby
  have HB := Lib.hid hb
  have hconv := hby.conv tc
  rw [show strOfNums [0, 97, 0, 98, 99, 0] = ⟨#[0, 97, 0, 98, 99, 0]⟩ from rfl] at hconv
  have HAT : Hid (Calls Try.prog 10 #[.slice ta 6 tc, .int .u64 3] w1 fun e w' => e = .returned (.tuple #[.string ⟨#[98, 99]⟩, .int .i64 0]) ∧ w1 = w') := Lib.hid
    (at_ok _ _ _ _ _ 3 2 _ hby hc1 hc2 (by decide) ⟨by decide, by decide, by decide⟩)
  have HCK : Hid (Calls Try.prog 12 #[.slice ta 6 tc] w1 fun e w' => e = .returned (.int .i64 0) ∧ w1 = w') := Lib.hid
    (check_any _ _ _ _ _ _ hby (by decide))
  have HCN : Hid (Calls Try.prog 12 #[.slice none 0 0] w1 fun e w' => e = .returned (.int .i64 11) ∧ w1 = w') := Lib.hid
    (check_any 0 _ _ _ _ _ (Bys.empty _ _ _) (by decide))
  clear hby hb
  go_wp2_with (first | (go_at_call 10; refine HAT.out.mono ?_; rintro e w' ⟨rfl, rfl⟩) | (go_at_call 12; with_reducible refine HCK.out.mono ?_; rintro e w' ⟨rfl, rfl⟩) | (go_at_call 12; with_reducible refine HCN.out.mono ?_; rintro e w' ⟨rfl, rfl⟩))
  go_ret
  exact ⟨rfl, HB.out⟩
end Go.Proofs.Ytncnmgmkmjikcaa
