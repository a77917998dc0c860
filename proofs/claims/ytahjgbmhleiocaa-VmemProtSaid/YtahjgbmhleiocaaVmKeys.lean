/-
  What is proved here: maps.Keys over memory's map, and what slices.AppendSeq collects of it. · slices.Collect of memory's addresses.
  Conditions: as they say.
-/
import Derived.RangeFuncNested
import Derived.RangeFuncBox
import Derived.RangeFuncLeaves
import Derived.RangeFuncStops
import Derived.Shelf.Abstract
import Derived.WalkKit
import Derived.OwnWalkIn
import Derived.TacticsInMore
import Derived.LoopNIn
import Derived.LoopIn
import Derived.Maps.AppendAt
import Derived.Sort.MapsRangeIn
import Derived.Test.YtahjgbmhleiocaaVmMap
namespace Go.Proofs.Ytahjgbmhleiocaa
open Go.RowKit Go.WideMaps Go.Maps Go.Shelf
set_option linter.unusedVariables false
set_option linter.unusedSimpArgs false
attribute [local go_sem] Oper.semAt_some

theorem RngV.of_walks {w w' : World} {S : VS} {M : List Pg} {r cnt : Nat} {left : Lit → Bool} (h : RngV w S M r left cnt) (hM : M ≠ []) (hk : KeepsWalks w w') : RngV w' S M r left cnt := by
  unfold RngV at *
  cases hm : S.m with
  | none => rw [hm] at h; exact absurd h.1 hM
  | some b =>
    rw [hm] at h
    obtain ⟨D, n, h, hi⟩ := h
    exact ⟨D, n, h.of_walks hk, hi⟩
theorem RngV.iter_walk {w : World} {S : VS} {M : List Pg} {r cnt : Nat} {left : Lit → Bool} (h : RngV w S M r left cnt) (hM : M ≠ []) : ∃ o : Obj, w.heap[r]? = some o ∧ o.isWalk = true := by
  unfold RngV at h
  cases hm : S.m with
  | none => rw [hm] at h; exact absurd h.1 hM
  | some b =>
    rw [hm] at h
    obtain ⟨D, n, h, hi⟩ := h
    exact h.iter_walk
section
variable {F : Fence} {n : Nat} (w : World) {ops : Array Oper} {rest : List Oper} {o : Oper} {a : Act} {Q : Exit → Act → World → Prop}
theorem wpListIn_range_v (hg : o.guard = none) (m : Operand) (hop : o.op = Op.range 72 m) {S : VS} {M : List Pg} {c : Nat} (hm : a.eval m = .map S.m) (h : VAt w S M c)
    (hK : ∀ w' left cnt, RngV w' S M w.heap.size left cnt → (∀ p ∈ M, left (keyU p.a) = true) → cnt = M.length → w.grownBy w' none → w'.heap.size = w.heap.size + 1 → wpListIn F n Try.prog ops Q rest (a.put o.dst (.pointer (some ⟨w.heap.size, 0, none⟩))) w') :
    wpListIn F n Try.prog ops Q (o :: rest) a w := by
  have hmp := h.mp
  cases e : S.m with
  | none =>
    rw [e] at hmp hm
    have hM : M = [] := hmp
    refine wpListIn_plain hg fun K' hK' => ?_
    have hrun := run_range_nilMap (P := Try.prog) w 72 24 60 Try.underlying72
    unfold Oper.wpIn
    refine ⟨by simp [Oper.about, hop], ?_⟩
    rw [Oper.semAt_plain F _ _ (by rw [hop]; intro c hc'; cases hc')]
    simp [execOp, hop, hm, hrun, Result.andThen]
    refine hK' _ _ (hK _ (fun _ => false) 0 ?_ ?_ (by rw [hM]; rfl) (World.grownBy_alloc _ _ _) (by simp))
    · unfold RngV
      rw [e]
      exact ⟨hM, rfl, w, rfl, rfl⟩
    · rw [hM]; intro p hp; cases hp
  | some b =>
    rw [e] at hmp hm
    obtain ⟨D, n', hn, hz, hown, hi⟩ := hmp
    refine wpListIn_range_own w hg m 72 hop 24 60 law_u64 Try.underlying72 ptrR b n' D hm hown fun w' h1 h2 h3 => ?_
    refine hK w' (Maps.has D) (Maps.size D) ?_ (fun p hp => ?_) hz h2 h3
    · unfold RngV
      rw [e]
      exact ⟨D, n', h1, hi⟩
    · rw [(hi p.a).1, findP_of h.nd hp]; rfl
theorem wpListIn_next_v (hg : o.guard = none) (it : Operand) (hop : o.op = Op.next it false) {S : VS} {M : List Pg} {r : Nat} {left : Lit → Bool} {cnt : Nat} (hit : a.eval it = .pointer (some ⟨r, 0, none⟩)) (h : RngV w S M r left cnt)
    (hDone : (∀ p ∈ M, left (keyU p.a) = false) → wpListIn F n Try.prog ops Q rest (a.put o.dst (.tuple #[.bool false])) w)
    (hMore : ∀ (p : Pg) (w' : World) (cnt' : Nat), findP M p.a = some p → left (keyU p.a) = true → RngV w' S M r (fun z => left z && !z.sameKey (keyU p.a)) cnt' → cnt' < cnt → w.grownBy w' (some r) → w'.heap.size = w.heap.size →
      (Instr.entry (.pointer (some ⟨r, 0, none⟩))).run Try.prog w' = .ok (.tuple #[.int .u64 p.a, ptrV (S.pb p.a)]) w' → wpListIn F n Try.prog ops Q rest (a.put o.dst (.tuple #[.bool true, .int .u64 p.a, ptrV (S.pb p.a)])) w') :
    wpListIn F n Try.prog ops Q (o :: rest) a w := by
  unfold RngV at h
  cases e : S.m with
  | none =>
    rw [e] at h
    obtain ⟨hM, hc, w0, rfl, rfl⟩ := h
    refine wpListIn_plain hg fun K' hK' => ?_
    have hnx : ∀ ty, (Instr.next (.pointer (some ⟨w0.heap.size, 0, none⟩)) false ty).run Try.prog (w0.alloc (.mapIter none 0 #[] 0)) = _ := fun ty => run_next_nilMap w0 ty 0 0 #[]
    unfold Oper.wpIn
    refine ⟨by simp [Oper.about, hop], ?_⟩
    rw [Oper.semAt_plain F _ _ (by rw [hop]; intro c hc'; cases hc')]
    simp [execOp, hop, hit, hnx, Result.andThen]
    exact hK' _ _ (hDone (by rw [hM]; intro p hp; cases hp))
  | some b =>
    rw [e] at h
    obtain ⟨D, n', hrg, hi⟩ := h
    refine wpListIn_next_ranges w hg it hop 24 law_u64 ptrR (Value.int .u64) mkP (fun key kl hk => by obtain ⟨x, hx, _⟩ := Maps.keyOf_int_inv Try.underlying24 hk; exact ⟨x, hx⟩) inv_ptr b r n' D left cnt hit hrg (fun _ hl => hDone (fun p _ => hl _)) ?_
    intro x cc kl y w1 cnt1 hkx hlx hvy hat hrg1 hlt hg1 hs1 hen
    obtain ⟨p, rfl, rfl, hp, hcv⟩ := entry_is hi hkx hvy hat
    rw [hcv] at hen ⊢
    refine hMore p w1 cnt1 hp hlx ?_ hlt hg1 hs1 hen
    unfold RngV
    rw [e]
    exact ⟨D, n', hrg1, hi⟩
end
theorem ins_perm (p : Pg) : ∀ M : List Pg, (insP M p).Perm (p :: M)
  | [] => List.Perm.refl _
  | q :: r => by
    unfold insP
    split
    · exact List.Perm.refl _
    · exact ((ins_perm p r).cons q).trans (List.Perm.swap p q r)
set_option maxHeartbeats 1000000 in
/-- maps.Keys: the map is boxed. -/
theorem keys_in (F : Fence) (n : Nat) (hf : F.fn 30) (hro : F.round = none) (mb : Option Nat) (w : World) :
    CallsIn F n Try.prog 30 #[.map mb] w fun e w' => e = .returned (.func (.func 48) #[] #[.pointer (some ⟨w.heap.size, 0, none⟩)]) ∧ w' = w.alloc (.cells #[.map mb] 72) := by
  refine callsIn_of_wp Try.func30 rfl hf ?_ hro
  simp only [Try.ntmps30, List.size_toArray, List.length_cons, List.length_nil, Nat.reduceAdd, Nat.reduceSub, Array.replicate_succ, Array.replicate_zero, List.push_toArray, List.append_toArray, List.nil_append, List.cons_append]
  gi_wp2
  go_ret
  exact ⟨rfl, rfl⟩
def encU (a : Nat) : Value := .int .u64 a
set_option maxRecDepth 100000 in
set_option maxHeartbeats 4000000 in
theorem keys1_in (F : Fence) (n : Nat) (hf : F.fn 48) (hro : F.round = none) (hn : 1 ≤ n) (l Bm : Nat) {S : VS} {M : List Pg} {c : Nat} (J Jx : List Nat → World → Prop)
    (hY : ∀ pre x W, J pre W → pre.length < M.length → YieldAt F (n - 1) Try.prog l #[encU x] W fun e W' => (e = .returned (.bool true) ∧ J (pre ++ [x]) W' ∧ KeepsWalks W W') ∨ (e = .returned (.bool false) ∧ Jx (pre ++ [x]) W'))
    (W : World) (hJ : AbidesFrom W.heap.size J) (hm : W.cell? ⟨Bm, 0, none⟩ = some (.map S.m)) (h : VAt W S M c) (h0 : J [] W) :
    CallsIn F n Try.prog 48 #[.func (.yield l) #[] #[], .pointer (some ⟨Bm, 0, none⟩)] W fun e W' => (∃ v, e = .returned v) ∧ ((∃ ss : List Nat, ss.Perm (M.map (·.a)) ∧ J ss W') ∨ (∃ pre : List Nat, True ∧ Jx pre W')) := by
  have HH := Lib.hid h
  refine callsIn_of_wp Try.func48 rfl hf ?_ hro
  simp only [Try.ntmps48, List.size_toArray, List.length_cons, List.length_nil, Nat.reduceAdd, Nat.reduceSub, Array.replicate_succ, Array.replicate_zero, List.push_toArray, List.append_toArray, List.nil_append, List.cons_append]
  gi_wp2_with (first | (gi_at_range; refine wpListIn_range_v _ rfl _ rfl rfl HH.out ?_; intro w0 left0 cnt0 hrg0 hall0 hcnt0 hg0 hs0) | gi_in)
  go_frame
  gi_loopw [3] (fun _ wr => ∃ (left : Lit → Bool) (cnt : Nat) (ss : List Nat), RngV wr S M W.heap.size left cnt ∧ ss.Perm ((come left M).map (·.a)) ∧ J ss wr) (fun _ wr => lftV S W.heap.size wr)
  case atStart => exact ⟨_, _, [], hrg0, by rw [come_start hall0]; exact List.Perm.refl _, hJ [] W w0 none h0 hg0 (fun r e => by cases e)⟩
  case round =>
    obtain ⟨left, cnt, ss, hrg, hpm, hJs⟩ := hrel
    gi_wp2_with (first | (gi_at_next; refine wpListIn_next_v _ rfl _ rfl rfl hrg ?_ ?_) | gi_in)
    · intro hl0
      gi_wp2
      go_end0
      exact ⟨⟨_, rfl⟩, .inl ⟨ss, by rw [come_end2 hl0] at hpm; exact hpm, hJs⟩⟩
    · intro p w2 cnt2 hp hlx hrg2 hlt hg2 hs2 hen
      obtain ⟨hpM, _⟩ := findP_mem hp
      have hMne : M ≠ [] := fun e => by rw [e] at hpM; cases hpM
      obtain ⟨n1, n2, n3⟩ := come_step HH.out.so hp hlx
      have hsl : ss.length < M.length := by
        have := hpm.length_eq
        rw [List.length_map] at this; omega
      have hJ2 : J ss w2 := hJ ss wr w2 (some W.heap.size) hJs hg2 (fun r e => by cases e; exact ⟨Nat.le_refl _, hrg.iter_walk hMne⟩)
      obtain ⟨fn, tmps, assign, body, hy, hR⟩ := hY ss p.a w2 hJ2 hsl
      have hpm2 : (ss ++ [p.a]).Perm ((come (fun z => left z && !z.sameKey (keyU p.a)) M).map (·.a)) := by
        rw [← n2]
        refine List.Perm.trans ?_ (((ins_perm p _).map (·.a)).symm)
        rw [List.map_cons]
        exact (List.perm_append_comm (l₁ := ss) (l₂ := [p.a])).trans (hpm.cons p.a)
      unfold encU at hy
      unfold ptrV at hen ⊢
      clear hs2 n1 n2 n3
      gi_wp2
      refine hR.mono ?_
      rintro e W3 (⟨rfl, hJ3, hk3⟩ | ⟨rfl, hJx3⟩)
      · gi_wp2
        have hrg3 := hrg2.of_walks hMne hk3
        go_roundw
        case rel => exact ⟨_, cnt2, ss ++ [p.a], hrg3, hpm2, hJ3⟩
        case measure => rw [hrg3.left_eq, hrg.left_eq]; exact hlt
      · gi_wp2
        refine bodyPost_ret (results_none rfl _ _ _) rfl ?_
        exact ⟨⟨_, rfl⟩, .inr ⟨ss ++ [p.a], trivial, hJx3⟩⟩
theorem keys_stops (F : Fence) (n : Nat) (hf : F.fn 48) (hro : F.round = none) (hn : 1 ≤ n) (Bm : Nat) {S : VS} {M : List Pg} {c : Nat} (w : World) (hBm : Bm < w.heap.size) (hm : w.cell? ⟨Bm, 0, none⟩ = some (.map S.m)) (h : VAt w S M c) :
    SeqStops F n Try.prog 48 #[.pointer (some ⟨Bm, 0, none⟩)] encU (fun ss => ss.Perm (M.map (·.a))) (fun _ => True) M.length w := fun l J Jx W hW hJ _ hY h0 =>
  keys1_in F n hf hro hn l Bm J Jx hY W hJ ((hW.cell (p := ⟨Bm, 0, none⟩) hBm).trans hm) (h.below hW) h0
end Go.Proofs.Ytahjgbmhleiocaa
namespace Go.Proofs.Ytahjgbmhleiocaa
open Go.RowKit Go.WideMaps Go.Maps Go.Shelf
set_option linter.unusedVariables false
set_option linter.unusedSimpArgs false
attribute [local go_sem] Oper.semAt_some

set_option maxRecDepth 100000 in
set_option maxHeartbeats 4000000 in
theorem appseq_in (F : Fence) (n : Nat) (hf : F.fn 55) (hf1 : F.fn 48) (hro : F.round = none) (hn : 3 ≤ n) (Bm : Nat) {S : VS} {M : List Pg} {c : Nat} (w : World) (hBm : Bm < w.heap.size) (hm : w.cell? ⟨Bm, 0, none⟩ = some (.map S.m)) (h : VAt w S M c) :
    CallsIn F n Try.prog 55 #[.slice none 0 0, .func (.func 48) #[] #[.pointer (some ⟨Bm, 0, none⟩)]] w fun e W' => ∃ (v : Value) (ss : List Nat), e = .returned v ∧ ss.Perm (M.map (·.a)) ∧ W'.ownsRow w.heap.size 24 1 v ss.length (ss.map encU) ∧ Below w.heap.size w W' := by
  have h1 : 1 ≤ n := by omega
  obtain ⟨i0, hi, hz0, hz1, hz2⟩ := info_parts info_u64
  refine callsIn_of_wp_marks Try.func55 rfl hf ?_ hro
  simp only [Try.ntmps55, List.size_toArray, List.length_cons, List.length_nil, Nat.reduceAdd, Nat.reduceSub, Array.replicate_succ, Array.replicate_zero, List.push_toArray, List.append_toArray, List.nil_append, List.cons_append]
  gi_wp2
  have bO := Boxed.new w 67 (.slice none 0 0)
  have hB0 : Below w.heap.size w (w.alloc (.cells #[.slice none 0 0] 67)) := (Below.refl _ w).alloc (Nat.le_refl _) _
  refine wpIn_rangeFunc_ownF hro h1 (gf := 48) (lb := #[.pointer (some ⟨Bm, 0, none⟩)]) rfl hf1 (enters_of Try.func48 (by kernel_rfl) rfl)
    (encs := fun x => #[encU x]) (Kp := KeepsWalks) (w0 := w) (keys_stops F (n - 1) hf1 hro (by omega) Bm w hBm hm h) walksK_t walksK_b hB0 (fun _ => rfl)
    (fun pre W => (∃ v, Boxed W w.heap.size 67 v ∧ W.ownsRow w.heap.size 24 1 v pre.length (pre.map encU) ∧ True) ∧ Below w.heap.size w W)
    (fun _ _ _ => False)
    (OwnFrom.and (Own.from (holdsRow_own w.heap.size w.heap.size 67 24 1 (fun pre : List Nat => pre.length) (fun pre => pre.map encU) (fun _ _ => True)) _) (ownFrom_below (Nat.le_refl _) (by simp)))
    (fun _ _ _ _ _ hs _ _ => hs)
    ⟨⟨_, bO, World.ownsRow_nil _ _ _ _, trivial⟩, hB0⟩
    (fun x => { tmps := #[.slice none 0 0, .func (.func 48) #[] #[.pointer (some ⟨Bm, 0, none⟩)], .pointer (some ⟨w.heap.size, 0, none⟩), undef, .slice none 0 0, encU x, .func (.func 48) #[] #[.pointer (some ⟨Bm, 0, none⟩)], encU x, undef, undef, undef, undef, undef], defers := [] }) ?assign ?body ?done ?stop
  case assign =>
    intro l x W K hK
    unfold encU at *
    gi_wp2
    exact hK
  case body =>
    rintro l pre x W ⟨⟨v, hv, hrow, _⟩, hB⟩ hlt
    have hc := hv.cell
    have hle := h.le
    have hML : M.length ≤ maxLen := by unfold maxLen; omega
    unfold encU
    gi_wp2_with (gi_at_builtin; refine wpListIn_append_own _ rfl _ _ 67 rfl w.heap.size 24 i0 (.int .u64 0) 1 8 Try.underlying67 hi hz0 hz1 hz2 rfl (by decide) _ _ _ rfl (hrow.alloc _) ⟨W.heap.size, 0, none⟩ 1 1 [.int .u64 x] rfl rfl (cell_one_new _ _ _) (by simp [Value.oneCell']) (by omega) (by omega) (by have := hB.size; simp; omega) ?_; intro v' w1 hown' hgrow _; obtain ⟨g', cap', rfl⟩ := ownsRow_succ hown'; obtain ⟨hv1, hv2, hr2, hk2, hb2⟩ := hv.appended (by decide) hrow hB.size (Nat.le_refl _) hown' hgrow; have hc1 := hv1.cell; have hf1 := hv1.frozen)
    exact ⟨hk2, hk2.walks, ⟨_, hv2, by rw [List.length_append, List.map_append]; exact hr2, trivial⟩, hB.trans hb2⟩
  case done =>
    rintro D ys W hD hS ⟨⟨v, hv, hrow, _⟩, hB⟩ hK
    have hc := hv.cell
    gi_wp2
    refine ⟨by simp, .inl ⟨_, _, rfl, run_takeDeferred hK, ?_⟩⟩
    exact ⟨_, results_tmp rfl _ _ _, v, ys, rfl, hS, ownsRow_putObj hrow _ hK rfl, hB.trans (belowK_b (w := w) (Nat.le_refl _) W D _ _ (by simp at hD; omega) hK rfl rfl)⟩
  case stop =>
    rintro D c pre W _ _ h _
    exact h.elim
set_option maxHeartbeats 2000000 in
theorem collect_in (F : Fence) (n : Nat) (hf0 : F.fn 46) (hf : F.fn 55) (hf1 : F.fn 48) (hro : F.round = none) (hn : 4 ≤ n) (Bm : Nat) {S : VS} {M : List Pg} {c : Nat} (w : World) (hBm : Bm < w.heap.size) (hm : w.cell? ⟨Bm, 0, none⟩ = some (.map S.m)) (h : VAt w S M c) :
    CallsIn F n Try.prog 46 #[.func (.func 48) #[] #[.pointer (some ⟨Bm, 0, none⟩)]] w fun e W' => ∃ (v : Value) (ss : List Nat), e = .returned v ∧ ss.Perm (M.map (·.a)) ∧ W'.ownsRow w.heap.size 24 1 v ss.length (ss.map encU) ∧ Below w.heap.size w W' := by
  have h1 : 1 ≤ n := by omega
  refine callsIn_of_wp Try.func46 rfl hf0 ?_ hro
  simp only [Try.ntmps46, List.size_toArray, List.length_cons, List.length_nil, Nat.reduceAdd, Nat.reduceSub, Array.replicate_succ, Array.replicate_zero, List.push_toArray, List.append_toArray, List.nil_append, List.cons_append]
  gi_wp2_with (gi_at_call 55; refine (appseq_in F (n - 1) hf hf1 hro (by omega) Bm w hBm hm h).mono ?_; rintro e w' ⟨v, ss, rfl, hs, hr, hb⟩)
  go_ret
  exact ⟨v, ss, rfl, hs, hr, hb⟩
/-- slices.Collect of the addresses: each once, in some order. -/
theorem collect_ok (Bm : Nat) {S : VS} {M : List Pg} {c : Nat} (w : World) (hBm : Bm < w.heap.size) (hm : w.cell? ⟨Bm, 0, none⟩ = some (.map S.m)) (h : VAt w S M c) :
    Calls Try.prog 46 #[.func (.func 48) #[] #[.pointer (some ⟨Bm, 0, none⟩)]] w fun e W' => ∃ (v : Value) (ss : List Nat), e = .returned v ∧ ss.Perm (M.map (·.a)) ∧ W'.ownsRow w.heap.size 24 1 v ss.length (ss.map encU) ∧ Below w.heap.size w W' :=
  (callsIn_wide (n := 9)).1 (collect_in Fence.wide 9 trivial trivial trivial rfl (by decide) Bm w hBm hm h)
theorem keys_ok (mb : Option Nat) (w : World) :
    Calls Try.prog 30 #[.map mb] w fun e w' => e = .returned (.func (.func 48) #[] #[.pointer (some ⟨w.heap.size, 0, none⟩)]) ∧ w' = w.alloc (.cells #[.map mb] 72) :=
  (callsIn_wide (n := 9)).1 (keys_in Fence.wide 9 trivial rfl mb w)
end Go.Proofs.Ytahjgbmhleiocaa
