/-
  What is proved here: the library's insertion sort and Sort over at most twelve addresses. · slices.Sort and slices.Sorted over at most twelve addresses. · slices.Sorted of memory's addresses, at most twelve.
  Conditions: as they say.
-/
import Derived.Test.YtahjgbmhleiocaaVmKeys
import Derived.Sort.Row
import Derived.Sort.LotA
import Derived.CellFam
import Derived.BigGuard
import Derived.BigCall
import Derived.BigQuiet
import Derived.Deep.Draws
import Derived.Deep.QuietTactic
namespace Go.Proofs.Ytahjgbmhleiocaa
open Go.RowKit Go.WideMaps Go.Maps Go.Sort
set_option linter.unusedVariables false
set_option linter.unusedSimpArgs false

def ltU (x y : Int) : Bool := decide (x < y)
theorem nan_ok (x : Int) (w : World) : Calls Try.prog 75 #[.int .u64 x] w fun e w' => e = .returned (.bool false) ∧ w = w' := by
  go_enter Try.func75, Try.ntmps75
  go_wp2
  go_ret
  exact ⟨ret_bool (by simp), rfl⟩
theorem less_ok (x y : Int) (w : World) : Calls Try.prog 65 #[.int .u64 x, .int .u64 y] w fun e w' => e = .returned (.bool (ltU x y)) ∧ w = w' := by
  have HN := Lib.hid (nan_ok x w)
  unfold ltU
  go_enter Try.func65, Try.ntmps65
  go_wp2_with fail
  refine HN.out.mono ?_
  rintro r w1 ⟨rfl, rfl⟩
  go_wp2
  go_ret
  exact ⟨by first | rfl | (simp; done), rfl⟩
/-- One step of the inner loop, and its end. -/
theorem inner_swap {j : Nat} {d : Array Int} (hj : 0 < j) (hl : ltU d[j]! d[j - 1]! = true) : insInner ltU 0 j d = insInner ltU 0 (j - 1) (swp d j (j - 1)) := by
  cases j with
  | zero => omega
  | succ k =>
    have hl : ltU d[k + 1]! d[k]! = true := hl
    rw [insInner, if_pos (by simp [hl])]; rfl
theorem inner_end {j : Nat} {d : Array Int} (h : j = 0 ∨ ltU d[j]! d[j - 1]! = false) : insInner ltU 0 j d = d := by
  cases j with
  | zero => rfl
  | succ k =>
    have hl : ltU d[k + 1]! d[k]! = false := by
      rcases h with h | h
      · omega
      · exact h
    rw [insInner, if_neg (by simp [hl])]
/-- The world behind the sort so far. -/
def sortW (w : World) (g o m : Nat) (d : Array Int) : World := putRow (Value.int .u64) (Sort.ahead w m) g o d
theorem sortW_drew (w : World) (g o m q : Nat) (d : Array Int) : (sortW w g o m d).drewN q = sortW w g o (m + q) d := by
  unfold sortW
  have : ∀ X : World, X.drewN q = Sort.ahead X q := fun _ => rfl
  rw [this, putRow_ahead, ahead_ahead, ← putRow_ahead]
theorem sortW_swap (w : World) (g o m q : Nat) (d : Array Int) {i j : Nat} (hi : i < d.size) (hj : j < d.size) : (((sortW w g o m d).drewN q).setCell ⟨g, o + i, none⟩ (.int .u64 d[j]!)).setCell ⟨g, o + j, none⟩ (.int .u64 d[i]!) = sortW w g o (m + q) (swp d i j) := by
  rw [sortW_drew]
  exact putRow_swp (Value.int .u64) _ g o d i j hi hj
set_option maxHeartbeats 12800000 in
set_option maxRecDepth 100000 in
theorem ins_ok (g o cap : Nat) (d : Array Int) (w : World) (hH : Holds (Value.int .u64) w g o d) (hsz : d.size ≤ 1099511627776) (hcap : d.size ≤ cap) (hci : cap ≤ 9223372036854775807) :
    Calls Try.prog 59 #[.slice (some ⟨g, o, none⟩) d.size cap, .int .i64 0, .int .i64 d.size] w fun e w' => e = .returned (.tuple #[]) ∧ ∃ n, w' = sortW w g o n (Sort.insertionSort ltU d 0 d.size) := by
  obtain ⟨N, hN⟩ : ∃ N, d.size = N := ⟨_, rfl⟩
  have HN := Lib.hid hN
  have HH := Lib.hid hH
  have HST : Hid (w = sortW w g o 0 d) := Lib.hid (putRow_self _ _ _ _ _ hH).symm
  rw [hN] at hsz hcap ⊢
  clear hN hH
  have HL := Lib.hid (fun x y w1 => less_ok x y w1)
  go_enter Try.func59, Try.ntmps59
  go_wp2
  go_loopw [6] (fun vi wr => ∃ (i n : Nat) (dk : Array Int), vi = .int .i64 i ∧ 0 < i ∧ i ≤ N + 1 ∧ Hid (dk.size = N) ∧ Hid (wr = sortW w g o n dk) ∧ Hid (insOuter ltU 0 N i dk = insOuter ltU 0 N 1 d)) (fun vi _ => N + 1 - (intOf vi).toNat)
  case atStart => exact ⟨1, 0, d, by go_num, by omega, by omega, HN, HST, Lib.hid rfl⟩
  case round =>
    obtain ⟨i, n, dk, rfl, hi0, hiN, HSK, HW, HO⟩ := hrel
    by_cases hlt : i < N
    · have hlti : (i : Int) < N := by omega
      go_wp2
      obtain ⟨wo, rfl⟩ : ∃ wo : World, wo = wr := ⟨_, rfl⟩
      go_loopw [7] (fun vj w2 => ∃ (j m : Nat) (dj : Array Int), vj = .int .i64 j ∧ j ≤ i ∧ Hid (dj.size = N) ∧ Hid (w2 = sortW w g o m dj) ∧ Hid (insInner ltU 0 j dj = insInner ltU 0 i dk)) (fun vj _ => (intOf vj).toNat)
      case atStart => exact ⟨i, n, dk, rfl, Nat.le_refl _, HSK, HW, Lib.hid rfl⟩
      case round =>
        obtain ⟨j, m, dj, rfl, hji, HSJ, HW2, HI⟩ := hrel
        obtain ⟨G, HG⟩ : ∃ G : Nat → Int, Hid (∀ t, G t = dj[t]!) := ⟨fun t => dj[t]!, Lib.hid fun _ => rfl⟩
        have hcw : ∀ t, t < N → wr.cell? ⟨g, o + t, none⟩ = some (.int .u64 (G t)) := fun t ht => by
          rw [HW2.out, HG.out]
          exact cell?_putRow _ _ _ _ d dj (holds_ahead _ _ _ _ _ _ HH.out) (HSJ.out.trans HN.out.symm) t (by rw [HSJ.out]; exact ht)
        have hfw : ∀ t, t < N → wr.frozen? ⟨g, o + t, none⟩ = false := fun t ht => by
          rw [HW2.out]
          unfold sortW
          rw [frozen?_putRow]
          exact ((holds_ahead _ _ m _ _ _ HH.out) t (by rw [HN.out]; exact ht)).2
        have HOUT : Hid (∀ q, (j = 0 ∨ ltU dj[j]! dj[j - 1]! = false) → ∃ (i' n' : Nat) (dk' : Array Int), Value.int .i64 ((i : Int) + 1) = .int .i64 i' ∧ 0 < i' ∧ i' ≤ N + 1 ∧ Hid (dk'.size = N) ∧ Hid (wr.drewN q = sortW w g o n' dk') ∧ Hid (insOuter ltU 0 N i' dk' = insOuter ltU 0 N 1 d)) := Lib.hid (fun q h =>
          ⟨i + 1, m + q, dj, by go_num, by omega, by omega, HSJ, Lib.hid (by rw [HW2.out]; exact sortW_drew _ _ _ _ _ _), Lib.hid (by
            rw [← HO.out]
            conv => rhs; rw [insOuter, if_pos hlt, ← HI.out, inner_end h])⟩)
        by_cases hj0 : 0 < j
        · have hj0i : (0 : Int) < j := by omega
          have hjN : j < N := by omega
          cases hl : ltU (G j) (G (j - 1)) with
          | true =>
            have HLT := Lib.hid hl
            go_wp2
            go_quiet (first | (go_at_call 65; refine Calls.quiet_of_same ((HL.out _ _ _).mono fun _ _ h => ⟨h.1, h.2.symm⟩)))
            go_wp2
            go_region
            all_goals go_wp2
            go_roundw
            case rel =>
              refine ⟨j - 1, m + (nq + 1), swp dj j (j - 1), by congr 1; omega, by omega, Lib.hid (by rw [size_swp]; exact HSJ.out), Lib.hid ?_, Lib.hid ?_⟩
              · rw [HW2.out, HG.out, HG.out]
                exact sortW_swap w g o m (nq + 1) dj (by rw [HSJ.out]; omega) (by rw [HSJ.out]; omega)
              · rw [← HI.out]
                exact (inner_swap hj0 (by rw [← HG.out, ← HG.out]; exact HLT.out)).symm
            case measure => simp [intOf]; omega
          | false =>
            have HLT := Lib.hid hl
            go_wp2
            go_quiet (first | (go_at_call 65; refine Calls.quiet_of_same ((HL.out _ _ _).mono fun _ _ h => ⟨h.1, h.2.symm⟩)))
            go_wp2
            go_roundw
            case rel => exact HOUT.out nq (.inr (by rw [← HG.out, ← HG.out]; exact HLT.out))
            case measure => simp [intOf]; omega
        · have hj0i : ¬ (0 : Int) < j := by omega
          go_wp2
          go_quiet (first | (go_at_call 65; refine Calls.quiet_of_same ((HL.out _ _ _).mono fun _ _ h => ⟨h.1, h.2.symm⟩)))
          go_wp2
          go_roundw
          case rel => exact HOUT.out nq (.inl (by omega))
          case measure => simp [intOf]; omega
    · have hlti : ¬ (i : Int) < N := by omega
      have HGE : Hid (Sort.insertionSort ltU d 0 N = dk) := Lib.hid (by unfold Sort.insertionSort; rw [← HO.out, insOuter, if_neg hlt])
      go_wp2
      go_end0
      exact ⟨rfl, n, by rw [HGE.out]; exact HW.out⟩
end Go.Proofs.Ytahjgbmhleiocaa
namespace Go.Proofs.Ytahjgbmhleiocaa
open Go.RowKit Go.WideMaps Go.Maps Go.Sort
set_option linter.unusedVariables false
set_option linter.unusedSimpArgs false

set_option maxRecDepth 100000 in
set_option maxHeartbeats 12800000 in
theorem len64_ok (n : Nat) (hn : n ≤ 12) (w : World) : Calls Try.prog 69 #[.int .u64 n] w fun e w' => (∃ k : Int, e = .returned (.int .i64 k)) ∧ w = w' := by
  have h : n = 0 ∨ n = 1 ∨ n = 2 ∨ n = 3 ∨ n = 4 ∨ n = 5 ∨ n = 6 ∨ n = 7 ∨ n = 8 ∨ n = 9 ∨ n = 10 ∨ n = 11 ∨ n = 12 := by omega
  rcases h with rfl | rfl | rfl | rfl | rfl | rfl | rfl | rfl | rfl | rfl | rfl | rfl | rfl
  all_goals
    go_enter Try.func69, Try.ntmps69
    go_wp2
    go_ret
    exact ⟨⟨_, rfl⟩, rfl⟩
theorem blen_ok (n : Nat) (hn : n ≤ 12) (w : World) : Calls Try.prog 57 #[.int .u64 n] w fun e w' => (∃ k : Int, e = .returned (.int .i64 k)) ∧ w = w' := by
  have HL := Lib.hid (len64_ok n hn w)
  go_enter Try.func57, Try.ntmps57
  go_wp2_with fail
  refine HL.out.mono ?_
  rintro r w1 ⟨⟨k, rfl⟩, rfl⟩
  go_wp2
  go_ret
  exact ⟨⟨_, rfl⟩, rfl⟩
set_option maxRecDepth 100000 in
set_option maxHeartbeats 3200000 in
theorem pdq_ok (g o cap : Nat) (d : Array Int) (w : World) (k : Int) (hH : Holds (Value.int .u64) w g o d) (hsz : d.size ≤ 12) (hcap : d.size ≤ cap) (hci : cap ≤ 9223372036854775807) :
    Calls Try.prog 56 #[.slice (some ⟨g, o, none⟩) d.size cap, .int .i64 0, .int .i64 d.size, .int .i64 k] w fun e w' => e = .returned (.tuple #[]) ∧ ∃ n, w' = sortW w g o n (Sort.insertionSort ltU d 0 d.size) := by
  have HI := Lib.hid (ins_ok g o cap d w hH (by omega) hcap hci)
  obtain ⟨Z, hZ⟩ : ∃ Z, Sort.insertionSort ltU d 0 d.size = Z := ⟨_, rfl⟩
  rw [hZ] at HI ⊢
  generalize d.size = N at *
  clear hH hZ
  have hN : (N : Int) ≤ 12 := by omega
  go_enter Try.func56, Try.ntmps56
  go_wp2
  refine wp_loop_rounds 1 ?_
  rw [rounds_succ]
  go_wp2_with fail
  refine HI.out.mono ?_
  rintro r w1 ⟨rfl, hx⟩
  have HX := Lib.hid hx
  clear hx
  go_wp2
  refine bodyPost_ret (results_none rfl _ _ _) rfl ?_
  exact ⟨rfl, HX.out⟩
set_option maxRecDepth 100000 in
set_option maxHeartbeats 3200000 in
theorem sort_ok (g o cap : Nat) (d : Array Int) (w : World) (hH : Holds (Value.int .u64) w g o d) (hsz : d.size ≤ 12) (hcap : d.size ≤ cap) (hci : cap ≤ 9223372036854775807) :
    Calls Try.prog 47 #[.slice (some ⟨g, o, none⟩) d.size cap] w fun e w' => e = .returned (.tuple #[]) ∧ ∃ n, w' = sortW w g o n (Sort.insertionSort ltU d 0 d.size) := by
  have HP := Lib.hid (fun k => pdq_ok g o cap d w k hH hsz hcap hci)
  have HB := Lib.hid (blen_ok d.size hsz w)
  obtain ⟨Z, hZ⟩ : ∃ Z, Sort.insertionSort ltU d 0 d.size = Z := ⟨_, rfl⟩
  rw [hZ] at HP ⊢
  generalize d.size = N at *
  clear hH hZ
  have hN : (N : Int) ≤ 12 := by omega
  go_enter Try.func47, Try.ntmps47
  go_wp2_with fail
  refine HB.out.mono ?_
  rintro r w1 ⟨⟨k, rfl⟩, rfl⟩
  go_wp2_with fail
  refine (HP.out k).mono ?_
  rintro r w1 ⟨rfl, hx⟩
  have HX := Lib.hid hx
  clear hx
  go_wp2
  go_end0
  exact ⟨rfl, HX.out⟩
theorem ins_nil (w : World) : Calls Try.prog 59 #[.slice none 0 0, .int .i64 0, .int .i64 0] w fun e w' => e = .returned (.tuple #[]) ∧ w = w' := by
  go_enter Try.func59, Try.ntmps59
  go_wp2
  refine wp_loop_rounds 1 ?_
  rw [rounds_succ]
  go_wp2
  go_end0
  exact ⟨rfl, rfl⟩
theorem pdq_nil (w : World) (k : Int) : Calls Try.prog 56 #[.slice none 0 0, .int .i64 0, .int .i64 0, .int .i64 k] w fun e w' => e = .returned (.tuple #[]) ∧ w = w' := by
  have HI := Lib.hid (ins_nil w)
  go_enter Try.func56, Try.ntmps56
  go_wp2
  refine wp_loop_rounds 1 ?_
  rw [rounds_succ]
  go_wp2_with fail
  refine HI.out.mono ?_
  rintro r w1 ⟨rfl, rfl⟩
  go_wp2
  refine bodyPost_ret (results_none rfl _ _ _) rfl ?_
  exact ⟨rfl, rfl⟩
theorem sort_nil (w : World) : Calls Try.prog 47 #[.slice none 0 0] w fun e w' => e = .returned (.tuple #[]) ∧ w = w' := by
  have HB := Lib.hid (blen_ok 0 (by decide) w)
  have HP := Lib.hid (fun k => pdq_nil w k)
  go_enter Try.func47, Try.ntmps47
  go_wp2_with fail
  refine HB.out.mono ?_
  rintro r w1 ⟨⟨k, rfl⟩, rfl⟩
  go_wp2_with fail
  refine (HP.out k).mono ?_
  rintro r w1 ⟨rfl, rfl⟩
  go_wp2
  go_end0
  exact ⟨rfl, rfl⟩
end Go.Proofs.Ytahjgbmhleiocaa
namespace Go.Proofs.Ytahjgbmhleiocaa
open Go.RowKit Go.WideMaps Go.Maps Go.Sort
set_option linter.unusedVariables false
set_option linter.unusedSimpArgs false

theorem antiU (x y : Int) (h1 : ltU x y = false) (h2 : ltU y x = false) : x = y := by
  simp only [ltU, decide_eq_false_iff_not] at h1 h2; omega
theorem swoU : SWO ltU := ⟨fun x => by simp [ltU], fun x y z => by simp only [ltU, decide_eq_true_eq]; omega, fun x y z => by simp only [ltU, decide_eq_false_iff_not]; omega⟩
def arrU (ss : List Nat) : Array Int := (ss.map (fun a : Nat => (a : Int))).toArray
theorem arrU_size (ss : List Nat) : (arrU ss).size = ss.length := by unfold arrU; simp
theorem arrU_get {ss : List Nat} {i : Nat} (h : i < ss.length) : (arrU ss)[i]! = (ss[i] : Int) := by
  unfold arrU
  rw [getElem!_pos _ i (by simpa using h)]
  simp
theorem sort_is {ss ys : List Nat} (hp : ss.Perm ys) (hs : ys.Pairwise (· < ·)) : Sort.insertionSort ltU (arrU ss) 0 (arrU ss).size = arrU ys := by
  have h1 := insertionSort_holds (lt := ltU) swoU (arrU ss) 0 (arrU ss).size (Nat.zero_le _) (Nat.le_refl _)
  have e1 := sorted_unique_holds (lt := ltU) swoU antiU (arrU ss) _ h1.1 h1.2
  have hl := hp.length_eq
  have hP : PermIn 0 (arrU ss).size (arrU ss) (arrU ys) := by
    refine ⟨by rw [arrU_size, arrU_size, hl], fun i hi => ?_, ?_⟩
    · have hi2 : (arrU ss).size ≤ i := by omega
      have hi3 : (arrU ys).size ≤ i := by rw [arrU_size] at hi2 ⊢; omega
      rw [getElem!_neg (arrU ys) i (by omega), getElem!_neg (arrU ss) i (by omega)]
    · have e : (arrU ss).size = (arrU ys).size := by rw [arrU_size, arrU_size, hl]
      rw [Array.extract_size]
      rw [e, Array.extract_size]
      unfold arrU
      exact (hp.map _).symm
  have hS : SortedIn ltU 0 (arrU ss).size (arrU ys) := by
    intro i j _ hij hj
    rw [arrU_size, hl] at hj
    rw [arrU_get hj, arrU_get (by omega)]
    have := List.pairwise_iff_getElem.1 hs i j (by omega) hj hij
    simp only [ltU, decide_eq_false_iff_not]; omega
  have e2 := sorted_unique_holds (lt := ltU) swoU antiU (arrU ss) _ hP hS
  exact Array.ext' (e1.trans e2.symm)
theorem holdsU {w : World} {g : Nat} {cur : Array Value} {e : TypeId} {ss : List Nat} (hb : w.heap[g]? = some (.cells cur e (0, 0))) (ht : cur.toList.take ss.length = ss.map encU) : Holds (Value.int .u64) w g 0 (arrU ss) := by
  intro j hj
  rw [arrU_size] at hj
  refine ⟨?_, by simp [World.frozen?, hb]⟩
  have h1 : (cur.toList.take ss.length)[j]? = (ss.map encU)[j]? := by rw [ht]
  rw [List.getElem?_take_of_lt hj] at h1
  simp only [World.cell?, hb, Nat.zero_add]
  simp only [Option.isSome_none, Bool.false_eq_true, if_false]
  rw [← Array.getElem?_toList, h1, arrU_get hj]
  simp [hj, encU]
theorem sortW_block {w : World} {g n : Nat} {cur : Array Value} {e : TypeId} (d : Array Int) (hb : w.heap[g]? = some (.cells cur e (0, 0))) : (sortW w g 0 n d).heap[g]? = some (.cells (putCells (Value.int .u64) 0 d cur) e (0, 0)) := by
  simp [sortW, putRow, mapBlock, Sort.ahead, Array.getElem?_modify, hb, onCells]
theorem sortW_grown (w : World) (g n : Nat) (d : Array Int) : w.grownBy (sortW w g 0 n d) (some g) := by
  refine ⟨rfl, rfl, rfl, by simp [sortW, putRow, mapBlock, Sort.ahead], fun k hk hne => ?_⟩
  have : g ≠ k := fun e => hne (by rw [e])
  simp [sortW, putRow, mapBlock, Sort.ahead, Array.getElem?_modify, this]
theorem sortW_own {w : World} {base g cap n : Nat} {e : TypeId} {cur : Array Value} {ys : List Nat} (hbase : base ≤ g) (hb : w.heap[g]? = some (.cells cur e (0, 0))) (h1 : ys.length ≤ cap) (h2 : cap ≤ maxLen) (h3 : cur.size = cap * 1) :
    (sortW w g 0 n (arrU ys)).ownsRow base e 1 (.slice (some ⟨g, 0, none⟩) ys.length cap) ys.length (ys.map encU) := by
  refine ⟨by simp, .inr ⟨g, cap, _, rfl, hbase, sortW_block _ hb, h1, h2, by simp [putCells, h3], ?_⟩⟩
  rw [Nat.mul_one]
  apply List.ext_getElem?
  intro j
  by_cases hj : j < ys.length
  · rw [List.getElem?_take_of_lt hj, Array.getElem?_toList]
    have hs := arrU_size ys
    simp [putCells, hs, hj, show j < cur.size by omega, encU, arrU]
  · rw [List.getElem?_take_eq_none (by omega), List.getElem?_eq_none (by simp; omega)]
set_option maxRecDepth 100000 in
set_option maxHeartbeats 3200000 in
theorem sorted_ok (Bm : Nat) {S : VS} {M : List Pg} {c : Nat} (w : World) (hBm : Bm < w.heap.size) (hm : w.cell? ⟨Bm, 0, none⟩ = some (.map S.m)) (h : VAt w S M c) (h12 : M.length ≤ 12) :
    Calls Try.prog 29 #[.func (.func 48) #[] #[.pointer (some ⟨Bm, 0, none⟩)]] w fun e W' => ∃ v, e = .returned v ∧ W'.ownsRow w.heap.size 24 1 v (M.map (·.a)).length ((M.map (·.a)).map encU) ∧ Below w.heap.size w W' := by
  have HC := Lib.hid (collect_ok Bm w hBm hm h)
  have HSO := Lib.hid h.so
  have HLN : Hid ((M.map (·.a)).length ≤ 12) := Lib.hid (by rw [List.length_map]; exact h12)
  obtain ⟨ys, hys⟩ : ∃ ys, M.map (·.a) = ys := ⟨_, rfl⟩
  rw [hys] at HC HSO HLN ⊢
  clear h h12 hys hm
  go_enter Try.func29, Try.ntmps29
  go_wp2_with fail
  refine HC.out.mono ?_
  rintro r w1 ⟨v, ss, rfl, hp, hrow, hb⟩
  have hlen := hp.length_eq
  rcases hrow.2 with ⟨hnil, e0⟩ | ⟨g, cap, cur, hve, hbase, hbk, h1, h2, h3, h4⟩
  · have hy0 : ys = [] := List.eq_nil_of_length_eq_zero (by omega)
    have HN := Lib.hid (sort_nil w1)
    rw [hnil]
    have HB := Lib.hid hb
    have HY := Lib.hid hy0
    clear hrow hp hb hnil e0 hlen hy0
    go_wp2_with fail
    refine HN.out.mono ?_
    rintro r w2 ⟨rfl, rfl⟩
    go_wp2
    go_ret
    exact ⟨_, rfl, by rw [HY.out]; exact World.ownsRow_nil _ _ _ _, HB.out⟩
  · have hH := holdsU hbk (by simpa using h4)
    have hs := sort_ok g 0 cap (arrU ss) w1 hH (by rw [arrU_size]; have := HLN.out; omega) (by rw [arrU_size]; exact h1) (by unfold maxLen at h2; omega)
    rw [sort_is hp HSO.out, arrU_size, hlen] at hs
    have HS : Hid (Calls Try.prog 47 #[.slice (some ⟨g, 0, none⟩) ys.length cap] w1 fun e w' => e = .returned (.tuple #[]) ∧ Hid (w'.ownsRow w.heap.size 24 1 (.slice (some ⟨g, 0, none⟩) ys.length cap) ys.length (ys.map encU) ∧ Below w.heap.size w w')) := Lib.hid (hs.mono fun r w' ⟨hr, n, hw⟩ => ⟨hr, Lib.hid (by
      rw [hw]
      exact ⟨sortW_own hbase hbk (by omega) h2 h3, hb.grown (sortW_grown w1 g n _) hb.size (fun k e => by injection e with e; omega)⟩)⟩)
    rw [hve, hlen]
    clear hrow hp hb hve hbase hbk h1 h2 h3 h4 hH hs hlen
    go_wp2_with fail
    refine HS.out.mono ?_
    rintro r w2 ⟨rfl, hx⟩
    go_wp2
    go_ret
    exact ⟨_, rfl, hx.out.1, hx.out.2⟩
end Go.Proofs.Ytahjgbmhleiocaa
