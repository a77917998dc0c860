/-
  What is proved here: small calls of package vmem: New, validRange, validProt; nil receivers. · valid of package vmem's Page.
  Conditions: as they say.
-/
import Derived.Test.YtahjgbmhleiocaaVmHeap
namespace Go.Proofs.Ytahjgbmhleiocaa
open Go.RowKit Go.WideMaps Go.Maps
set_option linter.unusedVariables false
set_option linter.unusedSimpArgs false

theorem gr_refl (w : World) : w.grownBy w none := ⟨rfl, rfl, rfl, Nat.le_refl _, fun _ _ _ => rfl⟩
def VS0 (g : Nat) : VS := ⟨g, none, fun _ => 0, fun k => k = g⟩
set_option maxHeartbeats 800000 in
theorem vnew_ok (w : World) : Calls Try.prog 21 #[] w fun r w' => r = .returned (ptrV w.heap.size) ∧ VAt w' (VS0 w.heap.size) [] 0 ∧ w.grownBy w' none := by
  have HA : Hid (VAt (w.alloc (.cells #[.map none] 74)) (VS0 w.heap.size) [] 0) := Lib.hid ⟨Blk.new w _ _, rfl, (fun _ h => by cases h), (fun _ h => by cases h), (fun _ h => by cases h), List.Pairwise.nil, Nat.zero_le _, rfl, (fun _ h => by cases h), (fun _ h => by cases h), fun k hk => by
    have hk : k = w.heap.size := hk
    rw [hk]; simp⟩
  have HG := Lib.hid (World.grownBy_alloc w (.cells #[.map none] 74) none)
  go_enter Try.func21, Try.ntmps21
  go_wp2
  go_ret
  exact ⟨rfl, HA.out, HG.out⟩
theorem ret_b {a b : Bool} (h : a = b) : Ending.returned (.bool a) = .returned (.bool b) := by rw [h]
set_option maxHeartbeats 800000 in
theorem prot_ok (w : World) (p : Int) : Calls Try.prog 35 #[.int .i64 p] w fun r w' => w' = w ∧ r = .returned (.bool (protP p)) := by
  unfold protP
  go_enter Try.func35, Try.ntmps35
  by_cases h : 0 ≤ p
  · go_wp2
    go_ret
    exact ⟨rfl, ret_b (by simp [h])⟩
  · go_wp2
    go_ret
    exact ⟨rfl, ret_b (by simp; omega)⟩
set_option maxHeartbeats 1600000 in
theorem range_ok (w : World) (x n : Int) (x0 : 0 ≤ x) (x1 : x ≤ 18446744073709551615) (n0 : 0 ≤ n) (n1 : n ≤ 18446744073709551615) : Calls Try.prog 34 #[.int .u64 x, .int .u64 n] w fun r w' => w' = w ∧ r = .returned (.bool (rangeP x n)) := by
  by_cases h1 : x % 256 = 0
  · have h1b : (x % 256 != 0) = false := by simp [h1]
    by_cases h2 : n % 256 = 0
    · have h2b : (n % 256 != 0) = false := by simp [h2]
      by_cases h3 : n = 0
      · subst h3
        have e : rangeP x 0 = false := by simp [rangeP]
        rw [e]
        go_enter Try.func34, Try.ntmps34
        go_wp2
        go_ret
        exact ⟨rfl, rfl⟩
      · have h3b : (n == 0) = false := by simpa using h3
        by_cases h4 : x ≤ 4294967296
        · have hw : IntKind.u64.wrap (4294967296 - x) = 4294967296 - x := by
            show (4294967296 - x) % 18446744073709551616 = _
            omega
          have e : rangeP x n = decide (n ≤ 4294967296 - x) := by simp [rangeP, h1, h2, h3, h4]
          rw [e]
          clear e h1 h2 h3
          go_enter Try.func34, Try.ntmps34
          go_wp2
          go_ret
          exact ⟨rfl, ret_b (by first | rfl | simp)⟩
        · have e : rangeP x n = false := by simp [rangeP, h4]
          rw [e]
          clear e h1 h2 h3
          go_enter Try.func34, Try.ntmps34
          go_wp2
          go_ret
          exact ⟨rfl, rfl⟩
    · have h2b : (n % 256 != 0) = true := by simpa using h2
      have e : rangeP x n = false := by simp [rangeP, h2]
      rw [e]
      clear e h1 h2
      go_enter Try.func34, Try.ntmps34
      go_wp2
      go_ret
      exact ⟨rfl, rfl⟩
  · have h1b : (x % 256 != 0) = true := by simpa using h1
    have e : rangeP x n = false := by simp [rangeP, h1]
    rw [e]
    clear e h1
    go_enter Try.func34, Try.ntmps34
    go_wp2
    go_ret
    exact ⟨rfl, rfl⟩
end Go.Proofs.Ytahjgbmhleiocaa
namespace Go.Proofs.Ytahjgbmhleiocaa
open Go.RowKit Go.WideMaps Go.Maps
set_option linter.unusedVariables false
set_option linter.unusedSimpArgs false

/-- May a page be in memory? -/
def validP (a prot : Int) (f : ByteArray) (o : Int) (n : Nat) : Bool := rangeP a 256 && protP prot && decide (n = 256) && (decide (f.toList ≠ []) || decide (o = 0))
set_option maxHeartbeats 3200000 in
set_option maxRecDepth 100000 in
theorem valid_ok (w : World) (a prot o : Int) (d : Bool) (f : ByteArray) (b : Option Addr) (n c : Nat) (a0 : 0 ≤ a) (a1 : a ≤ 18446744073709551615) (o0 : 0 ≤ o) (o1 : o ≤ 18446744073709551615) (hn : n ≤ 1099511627776) :
    Calls Try.prog 26 #[.agg #[.int .u64 a, .int .i64 prot, .bool d, .string f, .int .u64 o, .slice b n c]] w fun r w' => r = .returned (.bool (validP a prot f o n)) ∧ Below w.heap.size w w' := by
  have HR := Lib.hid (fun w1 => range_ok w1 a 256 a0 a1 (by decide) (by decide))
  have HP := Lib.hid (fun w1 => prot_ok w1 prot)
  have HB : Hid (∀ X, Below w.heap.size w (w.alloc X)) := Lib.hid (fun X => (Below.refl _ _).alloc (Nat.le_refl _) X)
  unfold validP
  cases hr : rangeP a 256 with
  | false =>
    rw [hr] at HR
    clear hr HP
    go_enter Try.func26, Try.ntmps26
    go_wp2_with fail
    refine (HR.out _).mono ?_
    rintro r0 w0 ⟨rfl, rfl⟩
    go_wp2
    go_ret
    exact ⟨rfl, HB.out _⟩
  | true =>
    rw [hr] at HR
    clear hr
    cases hp : protP prot with
    | false =>
      rw [hp] at HP
      clear hp
      go_enter Try.func26, Try.ntmps26
      go_wp2_with fail
      refine (HR.out _).mono ?_
      rintro r0 w0 ⟨rfl, rfl⟩
      go_wp2_with fail
      refine (HP.out _).mono ?_
      rintro r0 w0 ⟨rfl, rfl⟩
      go_wp2
      go_ret
      exact ⟨rfl, HB.out _⟩
    | true =>
      rw [hp] at HP
      clear hp
      by_cases hn2 : n = 256
      · subst hn2
        cases hf : f.toList.isEmpty with
        | true =>
          have hf2 : f.toList = [] := by simpa using hf
          by_cases ho : o = 0
          · subst ho
            have HE : Hid ((true && true && decide (256 = 256) && (decide (f.toList ≠ []) || decide ((0 : Int) = 0))) = true) := Lib.hid (by simp)
            rw [HE.out]
            clear hf2
            go_enter Try.func26, Try.ntmps26
            go_wp2_with fail
            refine (HR.out _).mono ?_
            rintro r0 w0 ⟨rfl, rfl⟩
            go_wp2_with fail
            refine (HP.out _).mono ?_
            rintro r0 w0 ⟨rfl, rfl⟩
            go_wp2
            go_ret
            exact ⟨rfl, HB.out _⟩
          · have HE : Hid ((true && true && decide (256 = 256) && (decide (f.toList ≠ []) || decide (o = 0))) = false) := Lib.hid (by simp [hf2, ho])
            rw [HE.out]
            clear hf2
            go_enter Try.func26, Try.ntmps26
            go_wp2_with fail
            refine (HR.out _).mono ?_
            rintro r0 w0 ⟨rfl, rfl⟩
            go_wp2_with fail
            refine (HP.out _).mono ?_
            rintro r0 w0 ⟨rfl, rfl⟩
            go_wp2
            go_ret
            exact ⟨by first | rfl | (simp [ho]; done) | (show Ending.returned (.bool (o == 0)) = _; rw [show (o == 0) = false by simpa using ho]) | (show Ending.returned (.bool (decide (o = 0))) = _; rw [decide_eq_false ho]), HB.out _⟩
        | false =>
          have hf2 : f.toList ≠ [] := by
            intro e; rw [e] at hf; cases hf
          have HE : Hid ((true && true && decide (256 = 256) && (decide (f.toList ≠ []) || decide (o = 0))) = true) := Lib.hid (by simp [hf2])
          rw [HE.out]
          clear hf2
          go_enter Try.func26, Try.ntmps26
          go_wp2_with fail
          refine (HR.out _).mono ?_
          rintro r0 w0 ⟨rfl, rfl⟩
          go_wp2_with fail
          refine (HP.out _).mono ?_
          rintro r0 w0 ⟨rfl, rfl⟩
          go_wp2
          go_ret
          exact ⟨rfl, HB.out _⟩
      · have hni : ¬ (n : Int) = 256 := by omega
        have HE : Hid ((true && true && decide (n = 256) && (decide (f.toList ≠ []) || decide (o = 0))) = false) := Lib.hid (by simp [hn2])
        rw [HE.out]
        go_enter Try.func26, Try.ntmps26
        go_wp2_with fail
        refine (HR.out _).mono ?_
        rintro r0 w0 ⟨rfl, rfl⟩
        go_wp2_with fail
        refine (HP.out _).mono ?_
        rintro r0 w0 ⟨rfl, rfl⟩
        go_wp2
        go_ret
        exact ⟨rfl, HB.out _⟩
end Go.Proofs.Ytahjgbmhleiocaa
