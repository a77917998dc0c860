/-
  What is proved here: the small functions of package dynamic: a number's bytes, an entry behind bytes, a number of an entry.
  Conditions: none but that the arguments are values of their types.
-/
import Derived.Test.YtngjnbfjlchfgaaDynRef
import Derived.Test.YtngjnbfjlchfgaaOGet
import Derived.Test.YtngjnbfjlchfgaaOSet
import Derived.Test.YtngjnbfjlchfgaaApp
namespace Go.Proofs.Ytngjnbfjlchfgaa
open Go.RowKit
set_option linter.unusedVariables false
set_option linter.unusedSimpArgs false

theorem setB_noughts (x : Int) (n : Nat) : setB (List.replicate n 0) 0 x n = digs x n := by
  simp [setB, List.drop_eq_nil_of_le]
theorem replicate_map (n : Nat) : List.replicate n (Value.int .u8 0) = (List.replicate n (0 : Int)).map (Value.int .u8) := by
  rw [List.map_replicate]
/-- What a call that makes bytes hands back: a slice that reads as zs. -/
def Made (zs : List Int) (u : Value) (w : World) : Prop := ∃ g c, u = .slice (some ⟨g, 0, none⟩) zs.length c ∧ zs.length ≤ c ∧ (c : Int) ≤ 9223372036854775807 ∧ Bys w w.heap.size (some ⟨g, 0, none⟩) zs.length zs
/-- A row of bytes of the call's own is such a slice. -/
theorem own_made {w : World} {base : Nat} {u : Value} {zs : List Int} (h : w.ownsRow base 5 1 u zs.length (zs.map (Value.int .u8))) (h0 : 0 < zs.length) (hz : ∀ n ∈ zs, 0 ≤ n ∧ n ≤ 255) : Made zs u w := by
  obtain ⟨g, c, rfl, _⟩ := own_some h h0
  have hcap : zs.length ≤ c ∧ c ≤ maxLen := by
    rcases h.2 with ⟨hx, _⟩ | ⟨g, c, cur, hx, _, _, h3, h4, _⟩
    · cases hx
    · injection hx with _ _ hx; subst hx; exact ⟨h3, h4⟩
  exact ⟨g, c, rfl, hcap.1, by have := hcap.2; unfold maxLen at this; omega, Bys.own hz h⟩
theorem Made.below {zs : List Int} {u : Value} {w w' : World} (h : Made zs u w) (hb : Below w.heap.size w w') : Made zs u w' := by
  obtain ⟨g, c, e, h1, h2, h3⟩ := h
  exact ⟨g, c, e, h1, h2, (h3.below hb).more hb.size⟩

set_option maxHeartbeats 800000 in
theorem num8_ok (x : Int) (w : World) (x0 : 0 ≤ x) (x1 : x ≤ 18446744073709551615) :
    Calls Try.prog 26 #[.int .u64 x] w fun r w' => (∃ g c, r = .returned (.slice (some ⟨g, 0, none⟩) 8 c) ∧ Bys w' w'.heap.size (some ⟨g, 0, none⟩) 8 (digs x 8)) ∧ Below w.heap.size w w' := by
  obtain ⟨i0, hi, hz0, hz1, hz2⟩ := info_parts info_u8
  have HI := Lib.hid hi
  have HZ0 := Lib.hid hz0
  have HZ1 := Lib.hid hz1
  have HZ2 := Lib.hid hz2
  clear hi hz0 hz1 hz2
  go_enter Try.func26, Try.ntmps26
  go_wp2_with (at_make; refine wpList_make_full _ rfl _ _ 28 rfl w.heap.size 5 i0 (.int .u8 0) 1 Try.underlying28 HI.out HZ0.out HZ1.out .i64 .i64 _ _ 8 rfl rfl rfl rfl ?c1 ?c2 ?c3 ?_)
  case c1 => rw [HZ2.out]; omega
  case c2 => unfold maxLen; omega
  case c3 => exact Nat.le_refl _
  intro w1 hown hg
  have hb1 : Below w.heap.size w w1 := (Below.refl _ _).grown hg (Nat.le_refl _) (fun _ e => by cases e)
  rw [toList_madeCells_one, replicate_map] at hown
  have HBY := Lib.hid (Bys.own (zs := List.replicate 8 0) (fun m hm => by rw [List.eq_of_mem_replicate hm]; omega) hown)
  clear hown hg
  go_wp2_with fail
  refine (set_ok _ _ _ _ (List.replicate 8 0) 0 8 x _ HBY.out (Nat.le_refl _) (by decide) (by omega) (by omega) x0 x1).mono ?_
  rintro e w2 ⟨rfl, hown, hb2⟩
  rw [setB_noughts] at hown
  have HB : Hid (Bys w2 w2.heap.size (some ⟨w1.heap.size, 0, none⟩) 8 (digs x 8)) := Lib.hid (Bys.own (digs_bd x 8) hown)
  have hbb := hb1.trans (hb2.mono hb1.size)
  clear hown hb1 hb2
  go_wp2
  go_ret
  exact ⟨⟨_, _, rfl, HB.out⟩, hbb⟩

set_option maxHeartbeats 800000 in
theorem add_ok (base : Nat) (v : Value) (m : Nat) (zs : List Int) (x y : Int) (w : World) (ho : w.ownsRow base 5 1 v m (zs.map (Value.int .u8))) (hbase : base ≤ w.heap.size) (hm : m ≤ 1000000) (x0 : 0 ≤ x) (x1 : x ≤ 18446744073709551615) (y0 : 0 ≤ y) (y1 : y ≤ 18446744073709551615) :
    Calls Try.prog 17 #[v, .int .u64 x, .int .u64 y] w fun r w' => ∃ v', r = .returned v' ∧ w'.ownsRow base 5 1 v' (m + 16) ((zs ++ entB (x, y)).map (Value.int .u8)) ∧ Below base w w' := by
  obtain ⟨i0, hi, hz0, hz1, hz2⟩ := info_parts info_u8
  have HO := Lib.hid ho
  have HI := Lib.hid hi
  have HZ0 := Lib.hid hz0
  have HZ1 := Lib.hid hz1
  have HZ2 := Lib.hid hz2
  clear ho hi hz0 hz1 hz2
  go_enter Try.func17, Try.ntmps17
  go_wp2_with fail
  refine (num8_ok x _ x0 x1).mono ?_
  rintro r w1 ⟨⟨g, c, rfl, hby⟩, hb1⟩
  have HO1 := Lib.hid (own_below HO.out hb1)
  have HBY := Lib.hid hby
  have HB1 := Lib.hid (hb1.mono hbase)
  clear hby hb1
  go_wp2_with (at_builtin; refine wpList_append_bys rfl _ _ 28 rfl base 5 i0 (.int .u8 0) 1 Try.underlying28 HI.out HZ0.out HZ1.out HZ2.out rfl _ m _ rfl HO1.out _ 8 c _ (digs x 8) rfl HBY.out (fun h => by cases h) ?c1 ?c2 ?c3 ?_)
  case c1 => unfold maxLen; omega
  case c2 => omega
  case c3 => exact Nat.le_trans hbase HB1.out.size
  intro v2 w2 ho2 hg2
  have hb2 := HB1.out.grown hg2 (Nat.le_trans hbase HB1.out.size) (fun q e => (HO1.out.lt q e).1)
  have HO2 : Hid (w2.ownsRow base 5 1 v2 (m + 8) ((zs ++ digs x 8).map (Value.int .u8))) := Lib.hid (by simpa only [List.map_append] using ho2)
  have HB2 := Lib.hid hb2
  have hs2 := hb2.size
  clear ho2 hg2 hb2
  go_wp2_with fail
  refine (num8_ok y _ y0 y1).mono ?_
  rintro r w3 ⟨⟨g3, c3, rfl, hby⟩, hb3⟩
  have HO3 := Lib.hid (own_below HO2.out hb3)
  have HBY3 := Lib.hid hby
  have HB3 := Lib.hid (HB2.out.trans (hb3.mono (Nat.le_trans hbase hs2)))
  clear hby hb3
  go_wp2_with (at_builtin; refine wpList_append_bys rfl _ _ 28 rfl base 5 i0 (.int .u8 0) 1 Try.underlying28 HI.out HZ0.out HZ1.out HZ2.out rfl _ (m + 8) _ rfl HO3.out _ 8 c3 _ (digs y 8) rfl HBY3.out (fun h => by cases h) ?d1 ?d2 ?d3 ?_)
  case d1 => unfold maxLen; omega
  case d2 => omega
  case d3 => exact Nat.le_trans hbase HB3.out.size
  intro v4 w4 ho4 hg4
  have hb4 := HB3.out.grown hg4 (Nat.le_trans hbase HB3.out.size) (fun q e => (HO3.out.lt q e).1)
  have HO4 : Hid (w4.ownsRow base 5 1 v4 (m + 16) ((zs ++ entB (x, y)).map (Value.int .u8))) := Lib.hid (by
    simpa only [List.map_append, List.append_assoc, Nat.add_assoc, entB] using ho4)
  clear ho4 hg4
  go_wp2
  go_ret
  exact ⟨_, rfl, HO4.out, hb4⟩

set_option maxHeartbeats 400000 in
theorem read_ok (B : Nat) (a : Option Addr) (len cap : Nat) (zs : List Int) (p : Nat) (w : World) (hb : Bys w B a len zs) (hl : (len : Int) ≤ 9223372036854775807) (hs : p + 8 ≤ len) :
    Calls Try.prog 20 #[.slice a len cap, .int .u64 p] w fun e w' => e = .returned (.int .u64 (num (piece zs p 8))) ∧ w = w' := by
  have HB := Lib.hid hb
  clear hb
  go_enter Try.func20, Try.ntmps20
  go_wp2_with (go_at_call 27; refine (get_ok _ _ _ _ _ p 8 _ HB.out (by decide) hl hs).mono ?_; rintro e w' ⟨rfl, rfl⟩)
  go_ret
  exact ⟨rfl, rfl⟩
end Go.Proofs.Ytngjnbfjlchfgaa
