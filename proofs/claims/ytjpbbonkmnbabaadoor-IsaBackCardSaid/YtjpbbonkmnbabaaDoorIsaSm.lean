/-
  What is proved here: the small functions of package isa: uses, takes, numbersOf, insOf, the two closures, next, ignored, number.
  Conditions: the listed variables hold what they hold (Tb); texts of at most four thousand million bytes.
-/
import Derived.Test.YtjpbbonkmnbabaaDoorIsaTb
import Derived.Test.YtjpbbonkmnbabaaDoorFEnd
namespace Go.Proofs.YtjpbbonkmnbabaaDoor
open Go.RowKit
set_option linter.unusedVariables false
set_option linter.unusedSimpArgs false

theorem Blk.c3 {w : World} {g : Nat} {v0 v1 v2 : Value} {t : TypeId} (h : Blk w g #[v0, v1, v2] t) :
    w.cell? ⟨g, 0, none⟩ = some v0 ∧ w.cell? ⟨g, 1, none⟩ = some v1 ∧ w.cell? ⟨g, 2, none⟩ = some v2 := ⟨h.cell 0, h.cell 1, h.cell 2⟩
theorem bal {w w1 : World} (h : Below w.heap.size w w1) (o : Obj) : Below w.heap.size w (w1.alloc o) := h.alloc h.size o
theorem bal1 (w : World) (o : Obj) : Below w.heap.size w (w.alloc o) := bal (Below.refl _ w) o
def useB (r : Orow) (f : Frow) : Bool := decide (0 ≤ Lib.indexByte r.lt.data.toList f.l)
def takeB (r : Orow) (f : Frow) (x : Int) : Bool := if useB r f = true then decide (f.lo ≤ x) && decide (x ≤ f.hi) else (x == 0)
set_option maxRecDepth 100000 in
set_option maxHeartbeats 1600000 in
theorem uses_ok (r : Orow) (f : Frow) (w : World) :
    Calls Tryd.prog 25 #[r.val, f.val] w fun e w' => e = .returned (.bool (useB r f)) ∧ Below w.heap.size w w' := by
  obtain ⟨op, nm, lt⟩ := r
  obtain ⟨l, lo, hi⟩ := f
  unfold Orow.val Frow.val useB
  have HC := Lib.hid (fun w => Tryd.strings_Contains_one lt l w)
  have HB := Lib.hid (fun o1 o2 => bal (bal1 w o1) o2)
  generalize decide (0 ≤ Lib.indexByte lt.data.toList l) = b at HC ⊢
  go_enter Tryd.func25, Tryd.ntmps25
  go_wp2_with fail
  refine (HC.out _).mono ?_
  rintro e w1 ⟨rfl, rfl⟩
  go_wp2
  go_ret
  exact ⟨rfl, HB.out _ _⟩
set_option maxRecDepth 100000 in
set_option maxHeartbeats 1600000 in
theorem takes_ok (r : Orow) (f : Frow) (x : Int) (w : World) :
    Calls Tryd.prog 34 #[r.val, f.val, .int .i64 x] w fun e w' => e = .returned (.bool (takeB r f x)) ∧ Below w.heap.size w w' := by
  have HU := Lib.hid (fun w => uses_ok r f w)
  have HB := Lib.hid (fun o1 o2 => bal (bal1 w o1) o2)
  have HK : Hid (∀ o1, Blk ((w.alloc o1).alloc (.cells #[.string ⟨#[f.l]⟩, .int .i64 f.lo, .int .i64 f.hi] 65)) (w.heap.size + 1) #[.string ⟨#[f.l]⟩, .int .i64 f.lo, .int .i64 f.hi] 65) := Lib.hid (fun o1 => by
    have := Blk.new (w.alloc o1) #[.string ⟨#[f.l]⟩, .int .i64 f.lo, .int .i64 f.hi] 65
    simpa using this)
  unfold takeB
  obtain ⟨u, hu⟩ : ∃ u, useB r f = u := ⟨_, rfl⟩
  rw [hu] at HU ⊢
  clear hu
  obtain ⟨op, nm, lt⟩ := r
  obtain ⟨l, lo, hi⟩ := f
  simp only [Orow.val, Frow.val] at HU HK ⊢
  go_enter Tryd.func34, Tryd.ntmps34
  go_wp2_with fail
  refine (HU.out _).mono ?_
  rintro e w1 ⟨rfl, hb1⟩
  obtain ⟨q0, q1, q2⟩ := ((HK.out _).later hb1).c3
  have HB1 := Lib.hid ((HB.out _ _).trans (hb1.mono (HB.out _ _).size))
  clear hb1 HU HB HK
  cases u with
  | false =>
    go_wp2
    go_ret
    exact ⟨rfl, HB1.out⟩
  | true =>
    by_cases h1 : lo ≤ x
    · by_cases h2 : x ≤ hi
      · go_wp2
        go_ret
        exact ⟨by simp [h1, h2], HB1.out⟩
      · go_wp2
        go_ret
        exact ⟨by simp [h2], HB1.out⟩
    · go_wp2
      go_ret
      exact ⟨by simp; omega, HB1.out⟩
end Go.Proofs.YtjpbbonkmnbabaaDoor
