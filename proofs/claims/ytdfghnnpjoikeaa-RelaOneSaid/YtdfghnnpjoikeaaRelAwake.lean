/-
  What is proved here: the document's example holds: 'awake' returns true, and writes nothing that was there.
  Conditions: none.
-/
import Derived.Test.YtdfghnnpjoikeaaRelCode
namespace Go.Proofs.Ytdfghnnpjoikeaa
open Go.RowKit
set_option linter.unusedVariables false
set_option linter.unusedSimpArgs false

def ex7 : Rl := ⟨3, 1, 2, -1⟩
theorem ex7_ok : ex7.Ok := by constructor <;> decide
theorem ex7_val : valL 8 4096 9 5 = (4101, 0) := by decide +kernel
theorem ex7_chk : checkL [ex7] 2 = 10 ∧ checkL [ex7] 3 = 0 := by decide +kernel
set_option maxRecDepth 100000 in
set_option maxHeartbeats 3200000 in
theorem awake_any (w : World) :
    Calls Try.prog 9 #[] w fun e w' => e = .returned (.bool true) ∧ Below w.heap.size w w' := by
  have HV : Hid (∀ w1, Calls Try.prog 16 #[.int .u32 8, .int .u64 4096, .int .u64 9, .int .i64 5] w1 fun r w' => r = .returned (.tuple #[.int .u64 4101, .int .i64 0]) ∧ Below w1.heap.size w1 w') := Lib.hid (fun w1 => by
    have h := lvalue_any 8 4096 9 5 w1 (by decide) (by decide) (by decide) (by decide) (by decide) (by decide) (by decide) (by decide)
    rwa [ex7_val] at h)
  have HP := Lib.hid (fun w1 => lput_ok ex7 w1 ex7_ok)
  have HEL := Lib.hid (encL_len ex7)
  have HT := Lib.hid (tabL_one ex7_ok)
  unfold ex7 Rl.val at HP
  simp only at HP
  go_enter Try.func9, Try.ntmps9
  go_wp2_with fail
  refine (HV.out _).mono ?_
  rintro r w0 ⟨rfl, hb0⟩
  have HB0 := Lib.hid hb0
  clear hb0
  go_wp2_with fail
  refine (HP.out _).mono ?_
  rintro r w1 ⟨⟨u, rfl, g, c, rfl, hc1, hc2, hm⟩, hb⟩
  have HEL2 : (encL ⟨3, 1, 2, -1⟩).length = 24 := HEL.out
  rw [HEL2] at hm hc1 ⊢
  have HB1 := Lib.hid (HB0.out.trans (hb.mono HB0.out.size))
  have HG : Hid (Calls Try.prog 11 #[.slice (some ⟨g, 0, none⟩) 24 c] w1 fun r w' => (∃ u, r = .returned (.tuple #[u, .int .i64 0]) ∧ w'.ownsRow w1.heap.size 25 4 u 1 (Rl.flat [ex7])) ∧ Below w1.heap.size w1 w') := Lib.hid (by
    have h := ltable_any _ _ 24 c _ w1 hm (Nat.le_refl _) (by decide) hc1 hc2
    have e : tabL (encL ⟨3, 1, 2, -1⟩) = (0, [ex7]) := HT.out
    rw [e] at h
    exact h)
  clear hm hb HP
  go_wp2_with fail
  refine HG.out.mono ?_
  rintro r w4 ⟨⟨u, rfl, ho⟩, hb4⟩
  obtain ⟨la, lc, rfl, hlc, hlcm⟩ := Rl.own_slice ho
  have HL := Rl.Sl.own (fun s hs => by obtain rfl := List.mem_singleton.1 hs; exact ex7_ok) ho
  obtain ⟨lb, lo, rfl, hlb, hlcell⟩ := HL.hc (by decide)
  have h1 := hlcell 0 (by decide)
  rw [Nat.zero_mul, Nat.add_zero] at h1
  have c2 : w4.cell? ⟨lb, lo + 2, none⟩ = some (.int .u32 2) := h1.c2
  have c3 : w4.cell? ⟨lb, lo + 3, none⟩ = some (.int .i64 (-1)) := h1.c3
  have HB4 := Lib.hid (HB1.out.trans (hb4.mono HB1.out.size))
  have HC2 : Hid (Calls Try.prog 14 #[.slice (some ⟨lb, lo, none⟩) 1 lc, .int .i64 2] w4 fun r w' => r = .returned (.int .i64 10) ∧ Below w4.heap.size w4 w') := Lib.hid (ex7_chk.1 ▸ lcheck_any w4.heap.size _ 1 lc [ex7] 2 w4 HL (Nat.le_refl _) hlc hlcm (by decide) (by decide))
  have HC3 : Hid (∀ w5, Below w4.heap.size w4 w5 → Calls Try.prog 14 #[.slice (some ⟨lb, lo, none⟩) 1 lc, .int .i64 3] w5 fun r w' => r = .returned (.int .i64 0) ∧ Below w5.heap.size w5 w') := Lib.hid (fun w5 h5 => ex7_chk.2 ▸ lcheck_any w4.heap.size _ 1 lc [ex7] 3 w5 (HL.below h5) h5.size hlc hlcm (by decide) (by decide))
  have hlci : (1 : Int) ≤ lc := by omega
  have hci : (24 : Int) ≤ c := by omega
  clear ho hb4 hlcell HL HG h1
  go_wp2_with fail
  refine HC2.out.mono ?_
  rintro r w5 ⟨rfl, hb5⟩
  have HB5 := Lib.hid hb5
  clear hb5
  go_wp2_with fail
  refine (HC3.out _ HB5.out).mono ?_
  rintro r w6 ⟨rfl, hb6⟩
  have HB6 : Hid (Below w.heap.size w w6) := Lib.hid (by
    have h2 := HB4.out.trans (HB5.out.mono HB4.out.size)
    exact h2.trans (hb6.mono h2.size))
  clear hb6
  go_wp2
  go_ret
  exact ⟨rfl, HB6.out⟩
end Go.Proofs.Ytdfghnnpjoikeaa
