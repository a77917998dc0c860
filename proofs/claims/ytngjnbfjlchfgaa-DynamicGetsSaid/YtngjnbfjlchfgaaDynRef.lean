/-
  What is proved here: the reference's entries: an entry's bytes, the tags, nothing, Put, Same.
  Conditions: none but that the arguments are values of their types.
-/
import Derived.Test.YtngjnbfjlchfgaaDynMath
import Derived.Test.YtngjnbfjlchfgaaU64
import Derived.Test.YtngjnbfjlchfgaaBaseP
import Derived.Test.YtngjnbfjlchfgaaBlk
namespace Go.Proofs.Ytngjnbfjlchfgaa
open Go.RowKit
set_option linter.unusedVariables false
set_option linter.unusedSimpArgs false

set_option maxRecDepth 100000 in
set_option maxHeartbeats 1600000 in
theorem entry_ok (base : Nat) (v : Value) (m : Nat) (zs : List Int) (x y : Int) (w : World) (ho : w.ownsRow base 5 1 v m (zs.map (Value.int .u8))) (hbase : base ≤ w.heap.size) (hm : m ≤ 1000000) (x0 : 0 ≤ x) (x1 : x ≤ 18446744073709551615) (y0 : 0 ≤ y) (y1 : y ≤ 18446744073709551615) :
    Calls Try.prog 18 #[v, .int .u64 x, .int .u64 y] w fun r w' => ∃ v', r = .returned v' ∧ w'.ownsRow base 5 1 v' (m + 16) ((zs ++ entB (x, y)).map (Value.int .u8)) ∧ Below base w w' := by
  obtain ⟨i0, hi, hz0, hz1, hz2⟩ := info_parts info_u8
  have HO := Lib.hid ho
  have HI := Lib.hid hi
  have HZ0 := Lib.hid hz0
  have HZ1 := Lib.hid hz1
  have HZ2 := Lib.hid hz2
  clear ho hi hz0 hz1 hz2
  go_enter Try.func18, Try.ntmps18
  go_wp2
  go_loopw [0, 1, 7] (fun v' q i wr => ∃ k : Nat, k ≤ 8 ∧ i = .int .i64 k ∧ q = .int .u64 (x / 256 ^ k) ∧ wr.ownsRow base 5 1 v' (m + k) ((zs ++ digs x k).map (Value.int .u8)) ∧ Below base w wr) (fun _ _ i _ => 8 - (intOf i).toNat)
  case atStart => exact ⟨0, Nat.zero_le _, rfl, by simp, by simpa [digs] using HO.out, Below.refl _ _⟩
  case round =>
    obtain ⟨k, hk, rfl, rfl, hown, hbel⟩ := hrel
    by_cases hlt : k < 8
    · have hdv := Lib.hid (div_step x k)
      have hdg : Hid (digs x (k + 1) = digs x k ++ [x / 256 ^ k % 256]) := Lib.hid rfl
      have hq0 : 0 ≤ x / 256 ^ k := Int.ediv_nonneg x0 (Int.pow_nonneg (by decide))
      have hq1 : x / 256 ^ k ≤ 18446744073709551615 := Int.le_trans (Int.ediv_le_self _ x0) x1
      generalize x / 256 ^ k = q at hdv hdg hq0 hq1 ⊢
      have hsz := hbel.size
      have HOWN := Lib.hid hown
      clear hown
      go_wp2_with (at_builtin; refine wpList_append_own _ rfl _ _ 28 rfl base 5 i0 (.int .u8 0) 1 1 Try.underlying28 HI.out HZ0.out HZ1.out HZ2.out rfl (by decide) _ (m + k) _ rfl (HOWN.out.alloc _) ⟨wr.heap.size, 0, none⟩ 1 1 [.int .u8 (q % 256)] rfl rfl ?c1 ?c2 ?c3 ?c4 ?c5 ?_)
      case c1 => exact cell_one_new _ _ _
      case c2 => intro u hu; obtain rfl := List.mem_singleton.1 hu; rfl
      case c3 => unfold maxLen; omega
      case c4 => omega
      case c5 => simp; omega
      intro v2 w2 hown2 hg2 hnil2
      have hb2 : Below base w w2 := (hbel.alloc (by omega) _).grown hg2 (by simp; omega) (fun q e => (HOWN.out.lt q e).1)
      have HO2 : Hid (w2.ownsRow base 5 1 v2 (m + (k + 1)) ((zs ++ digs x (k + 1)).map (Value.int .u8))) := Lib.hid (by
        rw [hdg.out]; simpa only [List.map_append, List.append_assoc, List.map_cons, List.map_nil, Nat.add_assoc] using hown2)
      clear hown2 hg2 hnil2 hbel
      go_wp2
      go_roundw
      case rel => exact ⟨k + 1, by omega, by go_num, by rw [hdv.out], HO2.out, hb2⟩
      case measure => (simp [intOf] <;> omega)
    · obtain rfl : k = 8 := by omega
      rw [show ((8 : Nat) : Int) = 8 from rfl]
      generalize x / 256 ^ 8 = q8
      have HOW := Lib.hid hown
      have HBE := Lib.hid hbel
      clear hown hbel
      go_wp2
      go_loopw [0, 2, 8] (fun v' q i wr => ∃ k : Nat, k ≤ 8 ∧ i = .int .i64 k ∧ q = .int .u64 (y / 256 ^ k) ∧ wr.ownsRow base 5 1 v' (m + 8 + k) ((zs ++ digs x 8 ++ digs y k).map (Value.int .u8)) ∧ Below base w wr) (fun _ _ i _ => 8 - (intOf i).toNat)
      case atStart => exact ⟨0, Nat.zero_le _, rfl, by simp, by simpa [digs] using HOW.out, HBE.out⟩
      case round =>
        obtain ⟨k, hk, rfl, rfl, hown, hbel⟩ := hrel
        by_cases hlt : k < 8
        · have hdv := Lib.hid (div_step y k)
          have hdg : Hid (digs y (k + 1) = digs y k ++ [y / 256 ^ k % 256]) := Lib.hid rfl
          have hq0 : 0 ≤ y / 256 ^ k := Int.ediv_nonneg y0 (Int.pow_nonneg (by decide))
          have hq1 : y / 256 ^ k ≤ 18446744073709551615 := Int.le_trans (Int.ediv_le_self _ y0) y1
          generalize y / 256 ^ k = q at hdv hdg hq0 hq1 ⊢
          have hsz := hbel.size
          have HOWN := Lib.hid hown
          clear hown
          go_wp2_with (at_builtin; refine wpList_append_own _ rfl _ _ 28 rfl base 5 i0 (.int .u8 0) 1 1 Try.underlying28 HI.out HZ0.out HZ1.out HZ2.out rfl (by decide) _ (m + 8 + k) _ rfl (HOWN.out.alloc _) ⟨wr.heap.size, 0, none⟩ 1 1 [.int .u8 (q % 256)] rfl rfl ?d1 ?d2 ?d3 ?d4 ?d5 ?_)
          case d1 => exact cell_one_new _ _ _
          case d2 => intro u hu; obtain rfl := List.mem_singleton.1 hu; rfl
          case d3 => unfold maxLen; omega
          case d4 => omega
          case d5 => simp; omega
          intro v2 w2 hown2 hg2 hnil2
          have hb2 : Below base w w2 := (hbel.alloc (by omega) _).grown hg2 (by simp; omega) (fun q e => (HOWN.out.lt q e).1)
          have HO2 : Hid (w2.ownsRow base 5 1 v2 (m + 8 + (k + 1)) ((zs ++ digs x 8 ++ digs y (k + 1)).map (Value.int .u8))) := Lib.hid (by
            rw [hdg.out]; simpa only [List.map_append, List.append_assoc, List.map_cons, List.map_nil, Nat.add_assoc] using hown2)
          clear hown2 hg2 hnil2 hbel
          go_wp2
          go_roundw
          case rel => exact ⟨k + 1, by omega, by go_num, by rw [hdv.out], HO2.out, hb2⟩
          case measure => (simp [intOf] <;> omega)
        · obtain rfl : k = 8 := by omega
          have HOW := Lib.hid hown
          clear hown
          have HFI : Hid (wr.ownsRow base 5 1 _ (m + 16) ((zs ++ entB (x, y)).map (Value.int .u8))) := Lib.hid (by
            have := HOW.out
            simpa only [entB, List.append_assoc, Nat.add_assoc] using this)
          clear HOW
          go_wp2
          go_ret
          exact ⟨_, rfl, HFI.out, hbel⟩

theorem tagsD_bd : ∀ n ∈ tagsD, 0 ≤ n ∧ n ≤ 18446744073709551615 := by decide
set_option maxHeartbeats 400000 in
theorem tags_any (w : World) : Calls Try.prog 16 #[] w fun r w' => r = .returned (.slice (some ⟨w.heap.size, 0, none⟩) 7 7) ∧ Nus w' (w.heap.size + 1) (some ⟨w.heap.size, 0, none⟩) 7 tagsD ∧ Below w.heap.size w w' := by
  have HN : Hid (Nus (w.alloc (.cells #[.int .u64 14, .int .u64 5, .int .u64 10, .int .u64 6, .int .u64 1610612749, .int .u64 7, .int .u64 8] 23)) (w.heap.size + 1) (some ⟨w.heap.size, 0, none⟩) 7 tagsD) := Lib.hid (Nus.lit w tagsD tagsD_bd 23)
  have hbl : ∀ o, Below w.heap.size w (w.alloc o) := fun o => (Below.refl _ _).alloc (Nat.le_refl _) o
  go_enter Try.func16, Try.ntmps16
  go_wp2
  go_ret
  exact ⟨rfl, HN.out, hbl _⟩

theorem b2 {w : World} {g : Nat} {v0 v1 : Value} {t : TypeId} (h : Blk w g #[v0, v1] t) : w.cell? ⟨g, 0, none⟩ = some v0 ∧ w.cell? ⟨g, 1, none⟩ = some v1 := ⟨h.cell 0, h.cell 1⟩
theorem g2 {w : World} {g : Nat} {v0 v1 : Value} {t : TypeId} (h : Blk w g #[v0, v1] t) : w.frozen? ⟨g, 0, none⟩ = false ∧ w.frozen? ⟨g, 1, none⟩ = false := ⟨h.frozen 0, h.frozen 1⟩
set_option maxRecDepth 100000 in
set_option maxHeartbeats 1600000 in
/-- Two that read as the same are. -/
theorem same_yes (B : Nat) (a a' b b' : Option Addr) (n c c' d d' : Nat) (N V : List Int) (w : World) (h1 : Nus w B a n N) (h2 : Nus w B b n N) (h3 : Nus w B a' 7 V) (h4 : Nus w B b' 7 V) (hB : B ≤ w.heap.size) (hl : (n : Int) ≤ 9223372036854775807) :
    Calls Try.prog 15 #[.agg #[.slice a n c, .slice a' 7 c'], .agg #[.slice b n d, .slice b' 7 d']] w fun r w' => r = .returned (.bool true) ∧ Below w.heap.size w w' := by
  have hb0 : Below w.heap.size w ((w.alloc (.cells #[.slice a n c, .slice a' 7 c'] 32)).alloc (.cells #[.slice b n d, .slice b' 7 d'] 32)) := ((Below.refl _ _).alloc (Nat.le_refl _) _).alloc (by simp) _
  have HB0 := Lib.hid hb0
  have H1 := Lib.hid (h1.below (hb0.mono hB))
  have H2 := Lib.hid (h2.below (hb0.mono hB))
  have H3 := Lib.hid (h3.below (hb0.mono hB))
  have H4 := Lib.hid (h4.below (hb0.mono hB))
  have HBK : Hid (∀ w', Below (w.heap.size + 2) ((w.alloc (.cells #[.slice a n c, .slice a' 7 c'] 32)).alloc (.cells #[.slice b n d, .slice b' 7 d'] 32)) w' → Blk w' w.heap.size #[.slice a n c, .slice a' 7 c'] 32 ∧ Blk w' (w.heap.size + 1) #[.slice b n d, .slice b' 7 d'] 32) := Lib.hid (fun w' h =>
    ⟨((Blk.new w _ _).alloc _).below h (by omega), by
      have := (Blk.new (w.alloc (.cells #[.slice a n c, .slice a' 7 c'] 32)) #[.slice b n d, .slice b' 7 d'] 32).below h (by simp)
      simpa using this⟩)
  clear h1 h2 h3 h4 hb0
  go_enter Try.func15, Try.ntmps15
  go_wp2
  go_loopw [5] (fun i wr => ∃ k : Nat, k ≤ n ∧ i = .int .i64 k ∧ Below (w.heap.size + 2) ((w.alloc (.cells #[.slice a n c, .slice a' 7 c'] 32)).alloc (.cells #[.slice b n d, .slice b' 7 d'] 32)) wr) (fun i _ => n - (intOf i).toNat)
  case atStart => exact ⟨0, Nat.zero_le _, rfl, Below.refl _ _⟩
  case round =>
    obtain ⟨k, hk, rfl, hbel⟩ := hrel
    obtain ⟨p0, p1⟩ := b2 (HBK.out _ hbel).1
    obtain ⟨q0, q1⟩ := b2 (HBK.out _ hbel).2
    by_cases hlt : k < n
    · obtain ⟨ab, ao, rfl, haB, hac⟩ := H1.out.hc (by omega)
      obtain ⟨bb, bo, rfl, hbB, hbc⟩ := H2.out.hc (by omega)
      have e1 := (hbel.cell (p := ⟨ab, ao + k, none⟩) (by show ab < _; omega)).trans (hac k hlt)
      have e2 := (hbel.cell (p := ⟨bb, bo + k, none⟩) (by show bb < _; omega)).trans (hbc k hlt)
      have hki : (k : Int) < n := by omega
      have HBE := Lib.hid hbel
      generalize N.getD k 0 = x at e1 e2
      clear hac hbc hbel
      go_wp2
      go_quiet (fail)
      go_wp2
      go_roundw
      case rel => exact ⟨k + 1, by omega, by go_num, below_drewN HBE.out _⟩
      case measure => (simp [intOf] <;> omega)
    · obtain rfl : n = k := by omega
      have HBE := Lib.hid hbel
      clear hbel
      go_wp2
      go_loopw [6] (fun i wx => ∃ j : Nat, j ≤ 7 ∧ i = .int .i64 j ∧ Below (w.heap.size + 2) ((w.alloc (.cells #[.slice a n c, .slice a' 7 c'] 32)).alloc (.cells #[.slice b n d, .slice b' 7 d'] 32)) wx) (fun i _ => 7 - (intOf i).toNat)
      case atStart => exact ⟨0, Nat.zero_le _, rfl, HBE.out⟩
      case round =>
        obtain ⟨j, hj, rfl, hbx⟩ := hrel
        obtain ⟨p0, p1⟩ := b2 (HBK.out _ hbx).1
        obtain ⟨q0, q1⟩ := b2 (HBK.out _ hbx).2
        by_cases hlt7 : j < 7
        · obtain ⟨ab, ao, rfl, haB, hac⟩ := H3.out.hc (by omega)
          obtain ⟨bb, bo, rfl, hbB, hbc⟩ := H4.out.hc (by omega)
          have e1 := (hbx.cell (p := ⟨ab, ao + j, none⟩) (by show ab < _; omega)).trans (hac j hlt7)
          have e2 := (hbx.cell (p := ⟨bb, bo + j, none⟩) (by show bb < _; omega)).trans (hbc j hlt7)
          have hji : (j : Int) < 7 := by omega
          have HBX := Lib.hid hbx
          generalize V.getD j 0 = x at e1 e2
          clear hac hbc hbx
          go_wp2
          go_quiet (fail)
          go_wp2
          go_roundw
          case rel => exact ⟨j + 1, by omega, by go_num, below_drewN HBX.out _⟩
          case measure => (simp [intOf] <;> omega)
        · obtain rfl : j = 7 := by omega
          have HBX := Lib.hid (HB0.out.trans (hbx.mono (Nat.le_add_right _ 2)))
          clear hbx
          go_wp2
          go_ret
          exact ⟨rfl, HBX.out⟩
set_option maxHeartbeats 400000 in
theorem none_any (w : World) : Calls Try.prog 23 #[] w fun r w' => (∃ g, r = .returned (.agg #[.slice none 0 0, .slice (some ⟨g, 0, none⟩) 7 7]) ∧ w'.ownsRow w.heap.size 23 1 (.slice (some ⟨g, 0, none⟩) 7 7) 7 (([0, 0, 0, 0, 0, 0, 0] : List Int).map (Value.int .u64))) ∧ Below w.heap.size w w' := by
  obtain ⟨i0, hi, hz0, hz1, hz2⟩ := info_parts info_u64
  have HI := Lib.hid hi
  have HZ0 := Lib.hid hz0
  have HZ1 := Lib.hid hz1
  have HZ2 := Lib.hid hz2
  have HB0 : Hid (∀ o, Below w.heap.size w (w.alloc o)) := Lib.hid (fun o => (Below.refl _ _).alloc (Nat.le_refl _) o)
  clear hi hz0 hz1 hz2
  go_enter Try.func23, Try.ntmps23
  go_wp2_with (at_make; refine wpList_make_full _ rfl _ _ 22 rfl (w.heap.size + 1) 23 i0 (.int .u64 0) 1 Try.underlying22 HI.out HZ0.out HZ1.out .i64 .i64 _ _ 7 rfl rfl rfl rfl ?c1 ?c2 ?c3 ?_)
  case c1 => rw [HZ2.out]; omega
  case c2 => unfold maxLen; omega
  case c3 => simp
  intro w1 hown hg
  have hb1 : Below (w.heap.size + 1) (w.alloc (.cells #[.slice none 0 0, .slice none 0 0] 32)) w1 := (Below.refl _ _).grown hg (by simp) (fun _ e => by cases e)
  obtain ⟨q0, q1⟩ := b2 ((Blk.new w #[.slice none 0 0, .slice none 0 0] 32).below hb1 (Nat.lt_succ_self _))
  obtain ⟨f0, f1⟩ := g2 ((Blk.new w #[.slice none 0 0, .slice none 0 0] 32).below hb1 (Nat.lt_succ_self _))
  have HBF := Lib.hid ((HB0.out _).trans (hb1.mono (Nat.le_succ _)))
  rw [toList_madeCells_one] at hown
  have HOW := Lib.hid hown
  clear hown hg hb1
  go_wp2
  refine bodyPost_ret (v := .agg #[.slice none 0 0, .slice (some ⟨w.heap.size + 1, 0, none⟩) 7 7]) (by simp [results, Try.results23, go_sem, q0, q1]) rfl ⟨⟨_, rfl, ?_⟩, ?_⟩
  · exact own_base (ownsRow_setCell_below (ownsRow_setCell_below HOW.out (Nat.lt_succ_self _) _) (Nat.lt_succ_self _) _) (Nat.le_succ _)
  · exact (HBF.out.setCell (Nat.le_refl _) _).setCell (Nat.le_refl _) _
end Go.Proofs.Ytngjnbfjlchfgaa
