/-
  What is proved here: whole and fill of package dynamic.
  Conditions: none but that the arguments are values of their types.
-/
import Derived.Test.YtngjnbfjlchfgaaDynMap
namespace Go.Proofs.Ytngjnbfjlchfgaa
open Go.RowKit Go.WideMaps Go.Maps
set_option linter.unusedVariables false
set_option linter.unusedSimpArgs false

set_option maxHeartbeats 400000 in
theorem there_ok (g X n p : Nat) (seen : List Bool) (i : Nat) (w : World) (hi : i < 7) (hp : w.cell? ⟨p, 0, none⟩ = some (.map (some g))) (hf : FieldsM w g X n seen) :
    Calls Try.prog 28 #[.int .u64 (tagsD.getD i 0), .pointer (some ⟨p, 0, none⟩)] w fun e w' => e = .returned (.bool (seen.getD i false)) ∧ w = w' := by
  have hr := hf.look1 hi
  have ht := tagsD_pos hi
  generalize tagsD.getD i 0 = t at hr ht
  clear hf
  cases hs : seen.getD i false with
  | true =>
    rw [hs, if_pos rfl] at hr
    clear hs
    go_enter Try.func28, Try.ntmps28
    go_wp2
    go_ret
    exact ⟨rfl, rfl⟩
  | false =>
    rw [hs, if_neg (by decide)] at hr
    clear hs
    go_enter Try.func28, Try.ntmps28
    go_wp2
    go_ret
    exact ⟨rfl, rfl⟩

set_option maxHeartbeats 1600000 in
theorem whole_any (g X n : Nat) (st : StD) (w : World) (hf : FieldsM w g X n st.seen) :
    Calls Try.prog 21 #[.map (some g)] w fun r w' => r = .returned (.bool (wholeD st)) ∧ Below w.heap.size w w' := by
  have HBL : Hid (∀ o, Below w.heap.size w (w.alloc o)) := Lib.hid (fun o => (Below.refl _ _).alloc (Nat.le_refl _) o)
  have HF : Hid (∀ o, FieldsM (w.alloc o) g X n st.seen) := Lib.hid (fun o => by
    obtain ⟨D, h1, h2⟩ := hf
    exact ⟨D, h1.alloc o, h2⟩)
  have HC : Hid (∀ i t, i < 7 → tagsD.getD i 0 = t → Calls Try.prog 28 #[.int .u64 t, .pointer (some ⟨w.heap.size, 0, none⟩)] (w.alloc (.cells #[.map (some g)] 49)) fun e w' => e = .returned (.bool (st.seen.getD i false)) ∧ (w.alloc (.cells #[.map (some g)] 49)) = w') := Lib.hid (fun i t hi ht => by
    subst ht
    exact there_ok g X n w.heap.size st.seen i _ hi (World.cell?_alloc_at _ _ _ _ rfl) (HF.out _))
  have H1 := Lib.hid (HC.out 1 5 (by decide) rfl)
  have H2 := Lib.hid (HC.out 2 10 (by decide) rfl)
  have H3 := Lib.hid (HC.out 3 6 (by decide) rfl)
  have H4 := Lib.hid (HC.out 4 1610612749 (by decide) rfl)
  have H5 := Lib.hid (HC.out 5 7 (by decide) rfl)
  have H6 := Lib.hid (HC.out 6 8 (by decide) rfl)
  unfold wholeD
  generalize st.seen.getD 1 false = s1 at H1
  generalize st.seen.getD 2 false = s2 at H2
  generalize st.seen.getD 3 false = s3 at H3
  generalize st.seen.getD 4 false = s4 at H4
  generalize st.seen.getD 5 false = s5 at H5
  generalize st.seen.getD 6 false = s6 at H6
  clear hf HC HF
  cases s1 with
  | false =>
    go_enter Try.func21, Try.ntmps21
    go_wp2_with (go_at_call 28; (first | with_reducible refine H1.out.mono ?_); rintro e w' ⟨rfl, rfl⟩)
    go_ret
    exact ⟨rfl, HBL.out _⟩
  | true =>
    cases s2 with
    | false =>
      go_enter Try.func21, Try.ntmps21
      go_wp2_with (go_at_call 28; (first | with_reducible refine H1.out.mono ?_ | with_reducible refine H2.out.mono ?_); rintro e w' ⟨rfl, rfl⟩)
      go_ret
      exact ⟨rfl, HBL.out _⟩
    | true =>
      cases h34 : (s3 == s4) with
      | false =>
        go_enter Try.func21, Try.ntmps21
        go_wp2_with (go_at_call 28; (first | with_reducible refine H1.out.mono ?_ | with_reducible refine H2.out.mono ?_ | with_reducible refine H3.out.mono ?_ | with_reducible refine H4.out.mono ?_); rintro e w' ⟨rfl, rfl⟩)
        go_ret
        exact ⟨rfl, HBL.out _⟩
      | true =>
        go_enter Try.func21, Try.ntmps21
        go_wp2_with (go_at_call 28; (first | with_reducible refine H1.out.mono ?_ | with_reducible refine H2.out.mono ?_ | with_reducible refine H3.out.mono ?_ | with_reducible refine H4.out.mono ?_ | with_reducible refine H5.out.mono ?_ | with_reducible refine H6.out.mono ?_); rintro e w' ⟨rfl, rfl⟩)
        go_ret
        exact ⟨rfl, HBL.out _⟩

set_option maxHeartbeats 400000 in
theorem fill_form (g X n : Nat) (seen : List Bool) (t x : Int) (w : World) (ht : 0 ≤ t ∧ t ≤ 18446744073709551615) (hf : FieldsM w g X n seen) (hi : idxD t = none) :
    Calls Try.prog 22 #[.map (some g), .int .u64 t, .int .u64 x] w fun e w' => e = .returned (.int .i64 11) ∧ w = w' := by
  obtain ⟨v, hr⟩ := (hf.look ht).1 hi
  clear hf hi
  go_enter Try.func22, Try.ntmps22
  go_wp2
  go_ret
  exact ⟨rfl, rfl⟩
set_option maxHeartbeats 400000 in
theorem fill_over (g X n : Nat) (seen : List Bool) (t x : Int) (i : Nat) (w : World) (ht : 0 ≤ t ∧ t ≤ 18446744073709551615) (hf : FieldsM w g X n seen) (hi : idxD t = some i) (hs : seen.getD i false = true) :
    Calls Try.prog 22 #[.map (some g), .int .u64 t, .int .u64 x] w fun e w' => e = .returned (.int .i64 12) ∧ w = w' := by
  have hr := (hf.look ht).2 i hi
  rw [if_pos hs] at hr
  clear hf hi hs
  go_enter Try.func22, Try.ntmps22
  go_wp2
  go_ret
  exact ⟨rfl, rfl⟩
/-- The store, and the mark behind it. -/
theorem FieldsM.setCell {w : World} {g X n : Nat} {seen : List Bool} (h : FieldsM w g X n seen) {a : Addr} (ha : g ≠ a.block) (u : Value) : FieldsM (w.setCell a u) g X n seen := by
  obtain ⟨D, h1, h2⟩ := h
  exact ⟨D, h1.setCell ha u, h2⟩
theorem FieldsM.below {w w' : World} {g X n : Nat} {seen : List Bool} (h : FieldsM w g X n seen) (hb : Below w.heap.size w w') : FieldsM w' g X n seen := by
  have hl := h.lt
  obtain ⟨D, ⟨es, clock, h1, h2⟩, h3⟩ := h
  exact ⟨D, ⟨es, clock, by rw [hb.block g hl]; exact h1, h2⟩, h3⟩
theorem FieldsM.grown {w w' : World} {g X n : Nat} {seen : List Bool} {r : Option Nat} (h : FieldsM w g X n seen) (hg : w.grownBy w' r) (hr : some g ≠ r) : FieldsM w' g X n seen := by
  obtain ⟨D, h1, h2⟩ := h
  exact ⟨D, h1.kept hg hr, h2⟩
theorem FieldsM.drew {w : World} {g X n : Nat} {seen : List Bool} (h : FieldsM w g X n seen) : FieldsM w.drew g X n seen := h
set_option maxHeartbeats 400000 in
theorem fill_ok (g X n : Nat) (seen : List Bool) (t x : Int) (i : Nat) (w : World) (x0 : Int) (ht : 0 ≤ t ∧ t ≤ 18446744073709551615) (hf : FieldsM w g X n seen) (hgX : g ≠ X) (hn : n < maxLen) (hl : seen.length = 7) (hi : idxD t = some i) (hs : seen.getD i false = false)
    (hc : w.cell? ⟨X, i + 1, none⟩ = some (.int .u64 x0)) (hz : w.frozen? ⟨X, i + 1, none⟩ = false) :
    Calls Try.prog 22 #[.map (some g), .int .u64 t, .int .u64 x] w fun e w' => e = .returned (.int .i64 0) ∧ FieldsM w' g X (n + 1) (seen.set i true) ∧ (w.setCell ⟨X, i + 1, none⟩ (.int .u64 x)).grownBy w' (some g) := by
  have hr := (hf.look ht).2 i hi
  rw [if_neg (by rw [hs]; decide)] at hr
  obtain ⟨w2, hr2, hf2, hg2⟩ := (hf.setCell (a := ⟨X, i + 1, none⟩) hgX (.int .u64 x)).mark hn (idxD_lt hi).1 hl
  rw [(idxD_lt hi).2] at hr2
  have HF := Lib.hid hf2
  have HG := Lib.hid hg2
  clear hf hi hs hf2 hg2
  go_enter Try.func22, Try.ntmps22
  go_wp2
  go_ret
  exact ⟨rfl, HF.out, HG.out⟩
end Go.Proofs.Ytngjnbfjlchfgaa
