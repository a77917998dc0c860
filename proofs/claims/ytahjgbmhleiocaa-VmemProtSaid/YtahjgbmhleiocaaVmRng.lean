/-
  What is proved here: a range over memory's map, nil or not: the laws for the walk.
  Conditions: none.
-/
import Derived.Test.YtahjgbmhleiocaaVmCome
import Derived.Test.YtahjgbmhleiocaaVmUpd
import Derived.Laws.IdiomRangeMap
import Derived.Laws.Tables
import Derived.Test.YtahjgbmhleiocaaWholeB
namespace Go.Proofs.Ytahjgbmhleiocaa
open Go.RowKit Go.WideMaps Go.Maps
set_option linter.unusedVariables false
set_option linter.unusedSimpArgs false

/-- A range over memory's map is under way. -/
def RngV (w : World) (S : VS) (M : List Pg) (r : Nat) (left : Lit → Bool) (cnt : Nat) : Prop :=
  match S.m with
  | none => M = [] ∧ cnt = 0 ∧ ∃ w0 : World, w = w0.alloc (.mapIter none 0 #[] 0) ∧ r = w0.heap.size
  | some b => ∃ D n, w.ranges Try.prog 24 ptrR b r n D left cnt ∧ MapIs D M S.pb
def lftV (S : VS) (r : Nat) (w : World) : Nat := match S.m with
  | none => 0
  | some b => w.rangeLeft b r
theorem RngV.left_eq {w : World} {S : VS} {M : List Pg} {r cnt : Nat} {left : Lit → Bool} (h : RngV w S M r left cnt) : lftV S r w = cnt := by
  unfold RngV at h
  unfold lftV
  cases hm : S.m with
  | none => rw [hm] at h; exact h.2.1.symm
  | some b =>
    rw [hm] at h
    obtain ⟨D, n, h, _⟩ := h
    exact h.left_eq
theorem ranges_same {w w' : World} {b r n cnt : Nat} {D : DataW Unit} {left : Lit → Bool} (h : w.ranges Try.prog 24 ptrR b r n D left cnt) (hb : w'.heap[b]? = w.heap[b]?) (hr : w'.heap[r]? = w.heap[r]?) : w'.ranges Try.prog 24 ptrR b r n D left cnt := by
  unfold World.ranges at *
  rw [hb, hr]; exact h
theorem RngV.same {w w' : World} {S : VS} {M : List Pg} {r cnt : Nat} {left : Lit → Bool} (h : RngV w S M r left cnt) (hM : M ≠ []) (hb : ∀ b, S.m = some b → w'.heap[b]? = w.heap[b]?) (hr : w'.heap[r]? = w.heap[r]?) : RngV w' S M r left cnt := by
  unfold RngV at *
  cases hm : S.m with
  | none => rw [hm] at h; exact absurd h.1 hM
  | some b =>
    rw [hm] at h
    obtain ⟨D, n, h, hi⟩ := h
    exact ⟨D, n, ranges_same h (hb b hm) hr, hi⟩
theorem RngV.lt {w : World} {S : VS} {M : List Pg} {r cnt : Nat} {left : Lit → Bool} (h : RngV w S M r left cnt) : r < w.heap.size := by
  unfold RngV at h
  cases hm : S.m with
  | none =>
    rw [hm] at h
    obtain ⟨_, _, w0, rfl, rfl⟩ := h
    simp
  | some b =>
    rw [hm] at h
    obtain ⟨D, n, h, _⟩ := h
    exact h.lt
section
variable (w : World) {ops : Array Oper} {rest : List Oper} {o : Oper} {a : Act} {Q : Exit → Act → World → Prop}
theorem wpList_range_v (hg : o.guard = none) (m : Operand) (hop : o.op = Op.range 72 m) {S : VS} {M : List Pg} {c : Nat} (hm : a.eval m = .map S.m) (h : VAt w S M c)
    (hK : ∀ w' left cnt, RngV w' S M w.heap.size left cnt → (∀ p ∈ M, left (keyU p.a) = true) → cnt = M.length → w.grownBy w' none → w'.heap.size = w.heap.size + 1 → wpList Try.prog ops Q rest (a.put o.dst (.pointer (some ⟨w.heap.size, 0, none⟩))) w') :
    wpList Try.prog ops Q (o :: rest) a w := by
  have hmp := h.mp
  cases e : S.m with
  | none =>
    rw [e] at hmp hm
    have hM : M = [] := hmp
    refine wpList_plain hg fun K' hK' => ?_
    have hrun := run_range_nilMap (P := Try.prog) w 72 24 60 Try.underlying72
    unfold Oper.wp
    simp [execOp, hop, hm, hrun, Result.andThen]
    refine hK' _ _ (hK _ (fun _ => false) 0 ?_ ?_ (by rw [hM]; rfl) (World.grownBy_alloc _ _ _) (by simp))
    · unfold RngV
      rw [e]
      exact ⟨hM, rfl, w, rfl, rfl⟩
    · rw [hM]; intro p hp; cases hp
  | some b =>
    rw [e] at hmp hm
    obtain ⟨D, n, hn, hz, hown, hi⟩ := hmp
    refine wpList_range_own w hg m 72 hop 24 60 law_u64 Try.underlying72 ptrR b n D hm hown fun w' h1 h2 h3 => ?_
    refine hK w' (Maps.has D) (Maps.size D) ?_ (fun p hp => ?_) hz h2 h3
    · unfold RngV
      rw [e]
      exact ⟨D, n, h1, hi⟩
    · rw [(hi p.a).1, findP_of h.nd hp]; rfl
theorem wpList_next_v (hg : o.guard = none) (it : Operand) (hop : o.op = Op.next it false) {S : VS} {M : List Pg} {r : Nat} {left : Lit → Bool} {cnt : Nat} (hit : a.eval it = .pointer (some ⟨r, 0, none⟩)) (h : RngV w S M r left cnt)
    (hDone : (∀ p ∈ M, left (keyU p.a) = false) → wpList Try.prog ops Q rest (a.put o.dst (.tuple #[.bool false])) w)
    (hMore : ∀ (p : Pg) (w' : World) (cnt' : Nat), findP M p.a = some p → left (keyU p.a) = true → RngV w' S M r (fun z => left z && !z.sameKey (keyU p.a)) cnt' → cnt' < cnt → w.grownBy w' (some r) → w'.heap.size = w.heap.size →
      (Instr.entry (.pointer (some ⟨r, 0, none⟩))).run Try.prog w' = .ok (.tuple #[.int .u64 p.a, ptrV (S.pb p.a)]) w' → wpList Try.prog ops Q rest (a.put o.dst (.tuple #[.bool true, .int .u64 p.a, ptrV (S.pb p.a)])) w') :
    wpList Try.prog ops Q (o :: rest) a w := by
  unfold RngV at h
  cases e : S.m with
  | none =>
    rw [e] at h
    obtain ⟨hM, hc, w0, rfl, rfl⟩ := h
    refine wpList_plain hg fun K' hK' => ?_
    have hnx : ∀ ty, (Instr.next (.pointer (some ⟨w0.heap.size, 0, none⟩)) false ty).run Try.prog (w0.alloc (.mapIter none 0 #[] 0)) = _ := fun ty => run_next_nilMap w0 ty 0 0 #[]
    unfold Oper.wp
    simp [execOp, hop, hit, hnx, Result.andThen]
    exact hK' _ _ (hDone (by rw [hM]; intro p hp; cases hp))
  | some b =>
    rw [e] at h
    obtain ⟨D, n, hrg, hi⟩ := h
    refine wpList_next_ranges w hg it hop 24 law_u64 ptrR (Value.int .u64) mkP (fun key kl hk => by obtain ⟨x, hx, _⟩ := Maps.keyOf_int_inv Try.underlying24 hk; exact ⟨x, hx⟩) inv_ptr b r n D left cnt hit hrg (fun _ hl => hDone (fun p _ => hl _)) ?_
    intro x cc kl y w1 cnt1 hkx hlx hvy hat hrg1 hlt hg1 hs1 hen
    obtain ⟨p, rfl, rfl, hp, hcv⟩ := entry_is hi hkx hvy hat
    rw [hcv] at hen ⊢
    refine hMore p w1 cnt1 hp hlx ?_ hlt hg1 hs1 hen
    unfold RngV
    rw [e]
    exact ⟨D, n, hrg1, hi⟩
end
theorem come_end2 {left : Lit → Bool} {M : List Pg} (h : ∀ p ∈ M, left (keyU p.a) = false) : come left M = M := by
  unfold come
  rw [List.filter_eq_self]
  intro p hp
  rw [h p hp]; rfl
theorem MapV.len {w : World} {m : Option Nat} {M : List Pg} {pb : Nat → Nat} {c : Nat} (h : MapV w m M pb c) (ty : TypeId) : (Builtin.len_ #[72] ty #[.map m]).run Try.prog w = .ok (.int .i64 M.length) w := by
  cases m with
  | none =>
    have : M = [] := h
    subst this
    exact Maps.len_nil Try.underlying72 ty
  | some b =>
    obtain ⟨D, n, hn, hz, ho, hi⟩ := h
    rw [ho.len Try.underlying72 ty, hz]
end Go.Proofs.Ytahjgbmhleiocaa
