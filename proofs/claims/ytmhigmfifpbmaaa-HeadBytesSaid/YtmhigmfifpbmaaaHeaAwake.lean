/-
  What is proved here: the document's example holds: 'awake' returns true, and writes nothing that was there.
  Conditions: none.
-/
import Derived.Test.YtmhigmfifpbmaaaHeaGet
import Derived.Test.YtmhigmfifpbmaaaHeaRGet
namespace Go.Proofs.Ytmhigmfifpbmaaa
open Go.RowKit
set_option linter.unusedVariables false

theorem ex_getV : getV (enc 3 0 64 1) = .tuple #[headV 3 0 64 1, .int .i64 0] := by
  have h := head_put (k := 3) (e := 0) (s := 64) (c := 1) (by decide) (by decide) (by decide) (by decide) (by decide) []
  rw [List.append_nil] at h
  unfold getV
  rw [if_neg (by rw [enc_len]; decide), h.2.2.2.2, h.1, h.2.1, h.2.2.1, h.2.2.2.1]
  rfl
theorem short_getV : getV (piece (enc 3 0 64 1) 0 63) = .tuple #[headV 0 0 0 0, .int .i64 10] := by
  unfold getV
  rw [if_pos (by rw [piece_len (by rw [enc_len]; decide)]; decide)]

set_option maxRecDepth 100000 in
set_option maxHeartbeats 800000 in
theorem awake_any (w : World) :
    Calls Try.prog 7 #[] w fun e w' => e = .returned (.bool true) ∧ Below w.heap.size w w' := by
  have HP : Hid (Calls Try.prog 8 #[.agg #[.int .i64 3, .int .u64 0, .int .u64 64, .int .i64 1]] w fun r w' => (∃ u, r = .returned (.tuple #[u, .int .i64 0]) ∧ Made (enc 3 0 64 1) u w') ∧ Below w.heap.size w w') := Lib.hid (put_ok 3 0 64 1 w (by decide) (by decide) (by decide) (by decide) (by decide))
  go_enter Try.func7, Try.ntmps7
  go_wp2_with (go_at_call 8; refine HP.out.mono ?_)
  rintro r w1 ⟨⟨u, rfl, g, c, rfl, hc1, hc2, hm⟩, hb⟩
  rw [enc_len] at hm hc1 ⊢
  obtain ⟨b', off', hbo, hlt, hcell⟩ := hm.2.2 (by decide)
  injection hbo with hbo; injection hbo with hbo1 hbo2; subst hbo1; subst hbo2
  have q0 : w1.cell? ⟨g, 0, none⟩ = some (.int .u8 127) := hcell 0 (by decide)
  have q16 : w1.cell? ⟨g, 16, none⟩ = some (.int .u8 3) := by
    have h1 : (enc 3 0 64 1).getD 16 0 = 3 := by decide
    have := hcell 16 (by decide)
    rwa [h1] at this
  have hci : (64 : Int) ≤ c := by omega
  have G1 : Hid (Calls Try.prog 11 #[.slice (some ⟨g, 0, none⟩) 64 c] w1 fun r w' => r = .returned (.tuple #[headV 3 0 64 1, .int .i64 0]) ∧ Below w1.heap.size w1 w') := Lib.hid (ex_getV ▸ hget_any _ _ 64 c _ w1 hm (Nat.le_refl _) hc1 hc2)
  have G2 : Hid (∀ w2, Below w1.heap.size w1 w2 → Calls Try.prog 11 #[.slice (some ⟨g, 0, none⟩) 63 c] w2 fun r w' => r = .returned (.tuple #[headV 0 0 0 0, .int .i64 10]) ∧ Below w2.heap.size w2 w') := Lib.hid (fun w2 h2 =>
    short_getV ▸ hget_any w1.heap.size _ 63 c _ w2 ((hm.below h2).sub (p := 0) (n := 63) (by decide)) h2.size (by omega) hc2)
  have HB := Lib.hid hb
  clear hm hb hcell HP
  unfold headV at *
  go_wp2_with (go_at_call 11; refine G1.out.mono ?_)
  rintro r w2 ⟨rfl, hb2⟩
  have HB2 := Lib.hid hb2
  obtain ⟨p0, p1, p2, p3⟩ := (Blk.new w2 #[.int .i64 3, .int .u64 0, .int .u64 64, .int .i64 1] 25).c4
  have HX : Hid (Below w1.heap.size w1 (w2.alloc (.cells #[.int .i64 3, .int .u64 0, .int .u64 64, .int .i64 1] 25))) := Lib.hid (hb2.alloc hb2.size _)
  clear hb2
  go_wp2_with (go_at_call 11; refine (G2.out _ HX.out).mono ?_)
  rintro r w3 ⟨rfl, hb3⟩
  have p2' : w3.cell? ⟨w2.heap.size, 2, none⟩ = some (.int .u64 64) := (hb3.cell (p := ⟨w2.heap.size, 2, none⟩) (by simp)).trans p2
  have p3' : w3.cell? ⟨w2.heap.size, 3, none⟩ = some (.int .i64 1) := (hb3.cell (p := ⟨w2.heap.size, 3, none⟩) (by simp)).trans p3
  have HF : Hid (Below w.heap.size w (w3.alloc (.cells #[.int .i64 0, .int .u64 0, .int .u64 0, .int .i64 0] 25))) := Lib.hid (by
    have h1 := HB.out.trans (HX.out.mono HB.out.size)
    have h2 := h1.trans (hb3.mono h1.size)
    exact h2.alloc h2.size _)
  have hlt2 : w2.heap.size < w3.heap.size := by have := hb3.size; simp at this; omega
  clear p0 p1 p2 p3 hb3
  go_wp2
  go_ret
  exact ⟨rfl, HF.out⟩
end Go.Proofs.Ytmhigmfifpbmaaa
