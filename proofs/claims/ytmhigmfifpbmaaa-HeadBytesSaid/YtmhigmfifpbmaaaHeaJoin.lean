/-
  What is proved here: 'join' of package head: the bytes of its parts, one behind the other, in new memory.
  Conditions: parts that lie in memory, at most 2^40 bytes together, and not none.
-/
import Derived.Test.YtmhigmfifpbmaaaHeaPlain
namespace Go.Proofs.Ytmhigmfifpbmaaa
open Go.RowKit
set_option linter.unusedVariables false

/-- The first k parts' bytes. -/
def cat (zss : List (List Int)) (k : Nat) : List Int := (zss.take k).flatten
theorem cat_succ {zss : List (List Int)} {k : Nat} (h : k < zss.length) : cat zss (k + 1) = cat zss k ++ zss.getD k [] := by
  unfold cat
  rw [List.take_succ_eq_append_getElem h, List.flatten_append, List.getD_eq_getElem?_getD, List.getElem?_eq_getElem h]
  simp
theorem cat_all (zss : List (List Int)) : cat zss zss.length = zss.flatten := by unfold cat; rw [List.take_length]
theorem cat_le (zss : List (List Int)) (k : Nat) : (cat zss k).length ≤ zss.flatten.length := by
  have : zss.flatten = cat zss k ++ (zss.drop k).flatten := by
    unfold cat
    rw [← List.flatten_append, List.take_append_drop]
  rw [this, List.length_append]
  omega

set_option maxRecDepth 100000 in
set_option maxHeartbeats 800000 in
theorem join_ok (B : Nat) (a : Option Addr) (len cap : Nat) (vs : List Value) (zss : List (List Int)) (w : World) (hc : Cel w B a len vs) (hB : B ≤ w.heap.size) (hl : (len : Int) ≤ 9223372036854775807)
    (hz : zss.length = len) (hv : ∀ i, i < len → Made (zss.getD i []) (vs.getD i undef) w) (hbd : ∀ i, i < len → ∀ n ∈ zss.getD i [], 0 ≤ n ∧ n ≤ 255) (ht : zss.flatten.length ≤ 1099511627776) (h0 : 0 < zss.flatten.length) :
    Calls Try.prog 14 #[.slice a len cap] w fun r w' => (∃ u, r = .returned u ∧ w'.ownsRow w.heap.size 5 1 u zss.flatten.length (zss.flatten.map (Value.int .u8))) ∧ Below w.heap.size w w' := by
  obtain ⟨i0, hi, hz0, hz1, hz2⟩ := info_parts info_u8
  have HC := Lib.hid hc
  have HV := Lib.hid hv
  have HBD := Lib.hid hbd
  have HZ := Lib.hid hz
  have HT := Lib.hid ht
  have HP := Lib.hid h0
  have HI := Lib.hid hi
  have HZ0 := Lib.hid hz0
  have HZ1 := Lib.hid hz1
  have HZ2 := Lib.hid hz2
  clear hc hv hbd hz ht h0 hi hz0 hz1 hz2
  go_enter Try.func14, Try.ntmps14
  go_wp2_with (at_make; refine wpList_make_own _ rfl _ _ 26 rfl w.heap.size 5 i0 (.int .u8 0) 1 Try.underlying26 HI.out HZ0.out HZ1.out .i64 .i64 _ 64 rfl rfl rfl ?c1 ?c2 ?c3 ?_)
  case c1 => rw [HZ2.out]; omega
  case c2 => unfold maxLen; omega
  case c3 => exact Nat.le_refl _
  intro w1 hown hg
  have hb1 : Below w.heap.size w w1 := (Below.refl _ _).grown hg (Nat.le_refl _) (fun _ e => by cases e)
  have HOWN := Lib.hid hown
  clear hown hg
  go_wp2
  go_loopw [3, 5, 9] (fun v _ i wr => ∃ k : Nat, k ≤ len ∧ i = .int .i64 k ∧ wr.ownsRow w.heap.size 5 1 v (cat zss k).length ((cat zss k).map (Value.int .u8)) ∧ Below w.heap.size w wr) (fun _ _ i _ => len - (intOf i).toNat)
  case atStart => exact ⟨0, Nat.zero_le _, rfl, HOWN.out, hb1⟩
  case round =>
    obtain ⟨k, hk, rfl, hown, hbel⟩ := hrel
    by_cases hlt : k < len
    · obtain ⟨b, off, rfl, hbB, hcell⟩ := HC.out.2 (by omega)
      obtain ⟨g, c, hvk, _, _, hby⟩ := HV.out k hlt
      have hc := (hbel.cell (p := ⟨b, off + k, none⟩) (by show b < _; omega)).trans (hcell k hlt)
      have hvl : k < vs.length := by have := HC.out.1; omega
      rw [List.getD_eq_getElem?_getD, List.getElem?_eq_getElem hvl] at hvk
      simp only [Option.getD_some] at hvk
      rw [List.getElem?_eq_getElem hvl, hvk] at hc
      have hcs := Lib.hid (cat_succ (zss := zss) (k := k) (by have := HZ.out; omega))
      have hle := Lib.hid (cat_le zss (k + 1))
      have hb2 := hby.below hbel
      generalize zss.getD k [] = zs at hcs hc hb2
      have HSRC : Hid (∀ (j : Nat) (v : Value), (zs.map (Value.int .u8))[j]? = some v → wr.cell? ((⟨g, 0, none⟩ : Addr).add j) = some v) := Lib.hid (by
        intro j v hj
        have hj' : j < zs.length := by
          rcases Nat.lt_or_ge j zs.length with h | h
          · exact h
          · rw [List.getElem?_eq_none (by simpa using h)] at hj; cases hj
        obtain ⟨b', off', e, _, hcc⟩ := hb2.2.2 (by omega)
        injection e with e; injection e with e1 e2; subst e1; subst e2
        exact Bys.src hb2.1 hcc j v hj)
      have HOW := Lib.hid hown
      have hsum : Hid ((cat zss k).length + zs.length = (cat zss (k + 1)).length) := Lib.hid (by rw [hcs.out, List.length_append])
      have hsz := hbel.size
      clear hcell hvk hby hb2 hown hvl
      go_wp2_with (at_builtin; refine wpList_append_own _ rfl _ _ 26 rfl w.heap.size 5 i0 (.int .u8 0) 1 1 Try.underlying26 HI.out HZ0.out HZ1.out HZ2.out rfl (by decide) _ (cat zss k).length _ rfl HOW.out ⟨g, 0, none⟩ zs.length c (zs.map (Value.int .u8)) rfl ?c1 HSRC.out ?c2 ?c3 ?c4 ?c5 ?_)
      case c1 => rw [List.length_map]; omega
      case c2 => exact one_u8 zs
      case c3 => unfold maxLen; have := hsum.out; have := hle.out; have := HT.out; omega
      case c4 => have := hsum.out; have := hle.out; have := HT.out; omega
      case c5 => exact hsz
      intro v' w2 hown2 hg2 hnil2
      have hb2 : Below w.heap.size w w2 := hbel.grown hg2 hsz (fun q e => (HOW.out.lt q e).1)
      have HO2 : Hid (w2.ownsRow w.heap.size 5 1 v' (cat zss (k + 1)).length ((cat zss (k + 1)).map (Value.int .u8))) := Lib.hid (by
        rw [← hsum.out, hcs.out, List.map_append]; exact hown2)
      clear hown2 hg2 hnil2 hc hbel
      go_wp2
      go_roundw
      case rel => exact ⟨k + 1, by omega, by go_num, HO2.out, hb2⟩
      case measure => simp [intOf]; omega
    · obtain rfl : k = len := by omega
      have HF : Hid (cat zss k = zss.flatten) := Lib.hid (by rw [← HZ.out, cat_all])
      rw [HF.out] at hown
      have HM := Lib.hid hown
      clear hown
      go_wp2
      go_ret
      exact ⟨⟨_, rfl, HM.out⟩, hbel⟩
end Go.Proofs.Ytmhigmfifpbmaaa
