/-
  What is proved here: the document's example holds: 'awake' returns true, and writes nothing that was there.
  Conditions: none.
-/
import Derived.Test.YtngjnbfjlchfgaaDynGet
namespace Go.Proofs.Ytngjnbfjlchfgaa
open Go.RowKit
set_option linter.unusedVariables false
set_option linter.unusedSimpArgs false

theorem ex_get : getDy (putBy [] [0, 5, 6, 0, 0, 0, 0]) = (0, ⟨[], [0, 5, 6, 0, 0, 0, 0], sK [0, 5, 6, 0, 0, 0, 0] 7⟩) := by
  have h := dyn_back (more := []) (N := []) (V := [0, 5, 6, 0, 0, 0, 0]) (by decide) (fun i => by
    have : i = 0 ∨ i = 1 ∨ i = 2 ∨ i = 3 ∨ i = 4 ∨ i = 5 ∨ i = 6 ∨ 7 ≤ i := by omega
    rcases this with rfl | rfl | rfl | rfl | rfl | rfl | rfl | h
    any_goals decide
    rw [List.getD_eq_getElem?_getD, List.getElem?_eq_none (by simpa using h)]; decide)
  rw [List.append_nil] at h
  rw [h, vK_all rfl (by decide) (by decide)]
theorem ex_len : (putBy [] [0, 5, 6, 0, 0, 0, 0]).length = 48 := by decide +kernel
theorem ex_short : getDy (piece (putBy [] [0, 5, 6, 0, 0, 0, 0]) 0 40) = (10, stD0) := by kernel_rfl
theorem ex_cells : (putBy [] [0, 5, 6, 0, 0, 0, 0]).getD 0 0 = 5 ∧ (putBy [] [0, 5, 6, 0, 0, 0, 0]).getD 16 0 = 10 := by decide +kernel
/-- A row of bytes of the call's own that is not empty. -/
theorem own_reads {w : World} {base n : Nat} {u : Value} {zs : List Int} (h : w.ownsRow base 5 1 u zs.length (zs.map (Value.int .u8))) (hn : zs.length = n) (h0 : 0 < n) (hz : ∀ n ∈ zs, 0 ≤ n ∧ n ≤ 255) :
    ∃ g c, u = .slice (some ⟨g, 0, none⟩) n c ∧ n ≤ c ∧ (c : Int) ≤ 9223372036854775807 ∧ Bys w w.heap.size (some ⟨g, 0, none⟩) n zs := by
  subst hn
  exact own_made h h0 hz

set_option maxRecDepth 100000 in
set_option maxHeartbeats 1600000 in
theorem awake_any (w : World) :
    Calls Try.prog 9 #[] w fun e w' => e = .returned (.bool true) ∧ Below w.heap.size w w' := by
  have HP : Hid (Calls Try.prog 10 #[.agg #[.slice none 0 0, .int .u64 0, .int .u64 5, .int .u64 6, .int .u64 0, .int .u64 0, .int .u64 0, .int .u64 0]] w fun r w' => (∃ u, r = .returned u ∧ w'.ownsRow w.heap.size 5 1 u (putBy [] [0, 5, 6, 0, 0, 0, 0]).length ((putBy [] [0, 5, 6, 0, 0, 0, 0]).map (Value.int .u8))) ∧ Below w.heap.size w w') := Lib.hid (put_ok 0 none 0 0 [] [0, 5, 6, 0, 0, 0, 0] w (Nus.empty _ _ _) (by decide) rfl (Nat.zero_le _) (by decide))
  go_enter Try.func9, Try.ntmps9
  go_wp2_with fail
  refine HP.out.mono ?_
  rintro r w1 ⟨⟨u, rfl, ho⟩, hb⟩
  obtain ⟨g, c, rfl, hc1, hc2, hm⟩ := own_reads ho ex_len (by decide) (entsB_bd _)
  obtain ⟨b', off', hbo, hlt, hcell⟩ := hm.2.2 (by decide)
  injection hbo with hbo; injection hbo with hbo1 hbo2; subst hbo1; subst hbo2
  have q0 : w1.cell? ⟨g, 0, none⟩ = some (.int .u8 5) := by
    have := hcell 0 (by decide)
    rwa [ex_cells.1] at this
  have q16 : w1.cell? ⟨g, 16, none⟩ = some (.int .u8 10) := by
    have := hcell 16 (by decide)
    rwa [ex_cells.2] at this
  have hci : (48 : Int) ≤ c := by omega
  have G1 : Hid (Calls Try.prog 13 #[.slice (some ⟨g, 0, none⟩) 48 c] w1 fun r w' => TellsC ⟨[], [0, 5, 6, 0, 0, 0, 0], sK [0, 5, 6, 0, 0, 0, 0] 7⟩ 0 r w' ∧ Below w1.heap.size w1 w') := Lib.hid (by
    have h := get5_any _ _ 48 c _ w1 hm (Nat.le_refl _) (by decide) hc1 hc2
    rwa [ex_get] at h)
  have G2 : Hid (∀ w2, Below w1.heap.size w1 w2 → Calls Try.prog 13 #[.slice (some ⟨g, 0, none⟩) 40 c] w2 fun r w' => TellsC stD0 10 r w' ∧ Below w2.heap.size w2 w') := Lib.hid (fun w2 h2 => by
    have h := get5_any w1.heap.size _ 40 c _ w2 ((hm.below h2).sub (p := 0) (n := 40) (by decide)) h2.size (by decide) (by omega) hc2
    rwa [ex_short] at h)
  have HB := Lib.hid hb
  clear hm hb hcell HP ho
  go_wp2_with fail
  refine G1.out.mono ?_
  rintro r w2 ⟨⟨na, nn, nc, rfl, hnu, hnn, -, -⟩, hb2⟩
  unfold infoV
  simp only [List.getD_cons_zero, List.getD_cons_succ]
  have HB2 := Lib.hid hb2
  obtain ⟨p0, p1, p2, p3, p4, p5, p6, p7⟩ := c8 (Blk.new w2 #[.slice na nn nc, .int .u64 0, .int .u64 5, .int .u64 6, .int .u64 0, .int .u64 0, .int .u64 0, .int .u64 0] 27)
  have HX : Hid (Below w1.heap.size w1 (w2.alloc (.cells #[.slice na nn nc, .int .u64 0, .int .u64 5, .int .u64 6, .int .u64 0, .int .u64 0, .int .u64 0, .int .u64 0] 27))) := Lib.hid (hb2.alloc hb2.size _)
  clear hb2 hnu
  go_wp2_with fail
  refine (G2.out _ HX.out).mono ?_
  rintro r w3 ⟨⟨nb, nm, nd, rfl, -, -, -, -⟩, hb3⟩
  unfold infoV stD0
  simp only [List.getD_cons_zero, List.getD_cons_succ]
  have p3' : w3.cell? ⟨w2.heap.size, 3, none⟩ = some (.int .u64 6) := (hb3.cell (p := ⟨w2.heap.size, 3, none⟩) (by show w2.heap.size < (w2.alloc _).heap.size; rw [World.size_alloc]; omega)).trans p3
  have q0' : w3.cell? ⟨g, 0, none⟩ = some (.int .u8 5) := ((HX.out.trans (hb3.mono HX.out.size)).cell (p := ⟨g, 0, none⟩) hlt).trans q0
  have q16' : w3.cell? ⟨g, 16, none⟩ = some (.int .u8 10) := ((HX.out.trans (hb3.mono HX.out.size)).cell (p := ⟨g, 16, none⟩) hlt).trans q16
  have HF : Hid (Below w.heap.size w (w3.alloc (.cells #[.slice nb nm nd, .int .u64 0, .int .u64 0, .int .u64 0, .int .u64 0, .int .u64 0, .int .u64 0, .int .u64 0] 27))) := Lib.hid (by
    have h1 := HB.out.trans (HX.out.mono HB.out.size)
    have h2 := h1.trans (hb3.mono h1.size)
    exact h2.alloc h2.size _)
  have hlt2 : w2.heap.size < w3.heap.size := by have := hb3.size; simp at this; omega
  have hlt3 : g < w3.heap.size := by have h5 := hb3.size; have h6 := HB2.out.size; simp only [World.size_alloc] at h5; omega
  clear p0 p1 p2 p3 p4 p5 p6 p7 hb3 q0 q16
  go_wp2
  go_ret
  exact ⟨rfl, HF.out⟩
end Go.Proofs.Ytngjnbfjlchfgaa
