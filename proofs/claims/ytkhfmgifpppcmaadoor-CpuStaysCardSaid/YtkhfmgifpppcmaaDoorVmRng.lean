/-
  What is proved here: one page of memory turns: plain words, and the heap. · a range over memory's map, nil or not: the laws for the walk.
  Conditions: as they say.
-/
import Derived.Test.YtkhfmgifpppcmaaDoorVmLd
import Derived.Test.YtkhfmgifpppcmaaDoorFWords
import Derived.Laws.CopyOwn
import Derived.Test.YtkhfmgifpppcmaaDoorVmHeap
import Derived.Laws.IdiomRangeMap
import Derived.Laws.Tables
import Derived.Test.YtkhfmgifpppcmaaDoorWholeB
namespace Go.Proofs.YtkhfmgifpppcmaaDoor
open Go.RowKit Go.WideMaps Go.Maps
set_option linter.unusedVariables false
set_option linter.unusedSimpArgs false

/-- The page at an address, turned. -/
def updP (M : List Pg) (a : Nat) (f : Pg → Pg) : List Pg := M.map (fun q => if q.a = a then f q else q)
theorem upd_as {M : List Pg} {a : Nat} {f : Pg → Pg} (hf : ∀ q, (f q).a = q.a) : (updP M a f).map (·.a) = M.map (·.a) := by
  unfold updP
  rw [List.map_map]
  refine List.map_congr_left fun q _ => ?_
  show (if q.a = a then f q else q).a = q.a
  by_cases e : q.a = a
  · rw [if_pos e, hf]
  · rw [if_neg e]
theorem upd_find {M : List Pg} {a : Nat} {f : Pg → Pg} (hf : ∀ q, (f q).a = q.a) (x : Nat) : findP (updP M a f) x = (findP M x).map (fun q => if q.a = a then f q else q) := by
  induction M with
  | nil => rfl
  | cons q r ih =>
    have e0 : updP (q :: r) a f = (if q.a = a then f q else q) :: updP r a f := rfl
    have e1 : (if q.a = a then f q else q).a = q.a := by
      by_cases e : q.a = a
      · rw [if_pos e, hf]
      · rw [if_neg e]
    rw [e0, findP_cons, findP_cons, e1, ih]
    by_cases e : q.a = x
    · rw [if_pos e, if_pos e]; rfl
    · rw [if_neg e, if_neg e]
theorem upd_len (M : List Pg) (a : Nat) (f : Pg → Pg) : (updP M a f).length = M.length := by unfold updP; rw [List.length_map]
theorem upd_good {M : List Pg} {a : Nat} {f : Pg → Pg} (hf : ∀ q, (f q).a = q.a) {p : Pt} (h : GoodP M p) : GoodP (updP M a f) p := by
  obtain ⟨q, hq, ho⟩ := h
  exact ⟨_, by rw [upd_find hf, hq]; rfl, ho⟩
theorem MapV.upd {w : World} {m : Option Nat} {M : List Pg} {pb : Nat → Nat} {c : Nat} (h : MapV w m M pb c) {a : Nat} {f : Pg → Pg} (hf : ∀ q, (f q).a = q.a) : MapV w m (updP M a f) pb c := by
  cases m with
  | none =>
    have h' : M = [] := h
    subst h'
    exact h
  | some b =>
    obtain ⟨D, n, hn, hz, ho, hi⟩ := h
    refine ⟨D, n, hn, by rw [hz, upd_len], ho, fun x => ⟨?_, fun p hp z => ?_⟩⟩
    · rw [(hi x).1, upd_find hf]; cases findP M x <;> rfl
    · rw [upd_find hf] at hp
      cases hq : findP M x with
      | none => rw [hq] at hp; cases hp
      | some q => exact (hi x).2 q hq z
theorem pgC_size (p : Pg) : (pgC p).size = p.b.length + 4 := by unfold pgC; simp
theorem VAt.apart {w : World} {S : VS} {M : List Pg} {c : Nat} (h : VAt w S M c) {p : Pg} (hp : p ∈ M) : S.g ≠ S.pb p.a ∧ ∀ b, S.m = some b → b ≠ S.pb p.a := by
  have hB := h.pg p hp
  refine ⟨fun e => ?_, fun b hb e => ?_⟩
  · have h1 := h.sp
    rw [e] at h1
    have h2 := (h1.same hB).1
    have h3 := congrArg Array.size h2
    rw [pgC_size, (h.ok p hp).len] at h3
    simp at h3
  · have hm := h.mp
    rw [hb] at hm
    obtain ⟨D, n, hn, hz, ⟨es, cl, hbk, r⟩, hi⟩ := hm
    unfold Blk at hB
    rw [← e, hbk] at hB
    injection hB with hB
    cases hB
theorem VAt.upd {w w' : World} {S : VS} {M : List Pg} {c : Nat} (h : VAt w S M c) {p : Pg} (hp : p ∈ M) {f : Pg → Pg} (hf : ∀ q, (f q).a = q.a) (hok : (f p).Ok) (hb : Blk w' (S.pb p.a) (pgC (f p)) 54)
    (hs : ∀ k, S.own k → k ≠ S.pb p.a → w'.heap[k]? = w.heap[k]?) (hz : w.heap.size ≤ w'.heap.size) : VAt w' S (updP M p.a f) c := by
  obtain ⟨n1, n2⟩ := h.apart hp
  have hmem : ∀ q ∈ updP M p.a f, ∃ q0 ∈ M, q.a = q0.a ∧ ((q = f p ∧ q0 = p) ∨ (q = q0 ∧ q0.a ≠ p.a)) := by
    intro q hq
    unfold updP at hq
    obtain ⟨q0, h0, rfl⟩ := List.mem_map.1 hq
    refine ⟨q0, h0, ?_⟩
    by_cases e : q0.a = p.a
    · have e2 : q0 = p := by
        have h1 := findP_of h.nd h0
        have h2 := findP_of h.nd hp
        rw [e, h2] at h1
        injection h1 with h1
        exact h1.symm
      rw [if_pos e, hf]
      exact ⟨rfl, .inl ⟨by rw [e2], e2⟩⟩
    · rw [if_neg e]
      exact ⟨rfl, .inr ⟨rfl, e⟩⟩
  refine ⟨blk_same h.sp (hs _ h.og n1), (h.mp.same (fun b e => hs b (h.om b e) (n2 b e))).upd hf, fun q hq => ?_, fun q hq q' hq' e => ?_, fun q hq => ?_, by rw [upd_as hf]; exact h.so, by rw [upd_len]; exact h.le, h.og, h.om, fun q hq => ?_, fun k hk => Nat.lt_of_lt_of_le (h.sm k hk) hz⟩
  · obtain ⟨q0, h0, ea, ⟨rfl, rfl⟩ | ⟨rfl, hne⟩⟩ := hmem q hq
    · rw [hf]; exact hb
    · exact blk_same (h.pg q h0) (hs _ (h.op q h0) (fun e => hne (h.inj q h0 p hp e)))
  · obtain ⟨q0, h0, ea, _⟩ := hmem q hq
    obtain ⟨q0', h0', ea', _⟩ := hmem q' hq'
    rw [ea, ea'] at e ⊢
    exact h.inj q0 h0 q0' h0' e
  · obtain ⟨q0, h0, ea, ⟨rfl, rfl⟩ | ⟨rfl, hne⟩⟩ := hmem q hq
    · exact hok
    · exact h.ok q h0
  · obtain ⟨q0, h0, ea, _⟩ := hmem q hq
    rw [ea]; exact h.op q0 h0
/-- Bytes over others. -/
def laidB (zs : List Int) (o : Nat) (bs : List Int) : List Int := zs.take o ++ (bs ++ zs.drop (o + bs.length))
theorem laidB_len {zs bs : List Int} {o : Nat} (h : o + bs.length ≤ zs.length) : (laidB zs o bs).length = zs.length := by unfold laidB; simp; omega
def putPg (o : Nat) (bs : List Int) (p : Pg) : Pg := { p with b := laidB p.b o bs }
theorem putPg_ok {p : Pg} (h : p.Ok) {o : Nat} {bs : List Int} (ho : o + bs.length ≤ 256) (hb : ∀ n ∈ bs, 0 ≤ n ∧ n ≤ 255) : (putPg o bs p).Ok :=
  ⟨h.al, h.lt, h.pr, h.fi, h.of, by show (laidB p.b o bs).length = 256; rw [laidB_len (by rw [h.len]; exact ho), h.len], fun n hn => by
    have hn : n ∈ laidB p.b o bs := hn
    unfold laidB at hn
    rcases List.mem_append.1 hn with hn | hn
    · exact h.bd n (List.mem_of_mem_take hn)
    · rcases List.mem_append.1 hn with hn | hn
      · exact hb n hn
      · exact h.bd n (List.mem_of_mem_drop hn)⟩
theorem pgC_put (p : Pg) (o : Nat) (bs : List Int) : ((pgC p).toList.take (4 + o) ++ (bs.map (Value.int .u8) ++ (pgC p).toList.drop (4 + o + (bs.map (Value.int .u8)).length))).toArray = pgC (putPg o bs p) := by
  unfold pgC putPg laidB
  rw [show 4 + o = o + 1 + 1 + 1 + 1 by omega, show o + 1 + 1 + 1 + 1 + (bs.map (Value.int .u8)).length = (o + bs.length) + 1 + 1 + 1 + 1 by rw [List.length_map]; omega]
  simp only [List.take_succ_cons, List.drop_succ_cons, List.cons_append, List.map_append, List.map_take, List.map_drop]
/-- What fill makes of memory. -/
def fillM : List Pg → List Pt → List Int → List Pg
  | M, [], _ => M
  | M, p :: r, bs => fillM (updP M p.a (putPg p.o (bs.take p.n))) r (bs.drop p.n)
theorem fill_snoc : ∀ (M : List Pg) (L : List Pt) (p : Pt) (bs : List Int), fillM M (L ++ [p]) bs = updP (fillM M L bs) p.a (putPg p.o ((bs.drop (L.map (fun x => x.n)).sum).take p.n))
  | M, [], p, bs => rfl
  | M, q :: r, p, bs => by
    show fillM (updP M q.a (putPg q.o (bs.take q.n))) (r ++ [p]) (bs.drop q.n) = _
    rw [fill_snoc _ r p, List.drop_drop]
    rfl
end Go.Proofs.YtkhfmgifpppcmaaDoor
namespace Go.Proofs.YtkhfmgifpppcmaaDoor
open Go.RowKit Go.WideMaps Go.Maps
set_option linter.unusedVariables false
set_option linter.unusedSimpArgs false

/-- A range over memory's map is under way. -/
def RngV (w : World) (S : VS) (M : List Pg) (r : Nat) (left : Lit → Bool) (cnt : Nat) : Prop :=
  match S.m with
  | none => M = [] ∧ cnt = 0 ∧ ∃ w0 : World, w = w0.alloc (.mapIter none 0 #[] 0) ∧ r = w0.heap.size
  | some b => ∃ D n, w.ranges Tryd.prog 22 ptrR b r n D left cnt ∧ MapIs D M S.pb
def lftV (S : VS) (r : Nat) (w : World) : Nat := match S.m with
  | none => 0
  | some b => w.rangeLeft b r
theorem RngV.left_eq {w : World} {S : VS} {M : List Pg} {r cnt : Nat} {left : Lit → Bool} (h : RngV w S M r left cnt) : lftV S r w = cnt := by
  unfold RngV at h
  unfold lftV
  cases hm : S.m with
  | none => rw [hm] at h; exact h.2.1.symm
  | some b =>
    rw [hm] at h
    obtain ⟨D, n, h, _⟩ := h
    exact h.left_eq
theorem ranges_same {w w' : World} {b r n cnt : Nat} {D : DataW Unit} {left : Lit → Bool} (h : w.ranges Tryd.prog 22 ptrR b r n D left cnt) (hb : w'.heap[b]? = w.heap[b]?) (hr : w'.heap[r]? = w.heap[r]?) : w'.ranges Tryd.prog 22 ptrR b r n D left cnt := by
  unfold World.ranges at *
  rw [hb, hr]; exact h
theorem RngV.same {w w' : World} {S : VS} {M : List Pg} {r cnt : Nat} {left : Lit → Bool} (h : RngV w S M r left cnt) (hM : M ≠ []) (hb : ∀ b, S.m = some b → w'.heap[b]? = w.heap[b]?) (hr : w'.heap[r]? = w.heap[r]?) : RngV w' S M r left cnt := by
  unfold RngV at *
  cases hm : S.m with
  | none => rw [hm] at h; exact absurd h.1 hM
  | some b =>
    rw [hm] at h
    obtain ⟨D, n, h, hi⟩ := h
    exact ⟨D, n, ranges_same h (hb b hm) hr, hi⟩
theorem RngV.lt {w : World} {S : VS} {M : List Pg} {r cnt : Nat} {left : Lit → Bool} (h : RngV w S M r left cnt) : r < w.heap.size := by
  unfold RngV at h
  cases hm : S.m with
  | none =>
    rw [hm] at h
    obtain ⟨_, _, w0, rfl, rfl⟩ := h
    simp
  | some b =>
    rw [hm] at h
    obtain ⟨D, n, h, _⟩ := h
    exact h.lt
section
variable (w : World) {ops : Array Oper} {rest : List Oper} {o : Oper} {a : Act} {Q : Exit → Act → World → Prop}
theorem wpList_range_v (hg : o.guard = none) (m : Operand) (hop : o.op = Op.range 45 m) {S : VS} {M : List Pg} {c : Nat} (hm : a.eval m = .map S.m) (h : VAt w S M c)
    (hK : ∀ w' left cnt, RngV w' S M w.heap.size left cnt → (∀ p ∈ M, left (keyU p.a) = true) → cnt = M.length → w.grownBy w' none → w'.heap.size = w.heap.size + 1 → wpList Tryd.prog ops Q rest (a.put o.dst (.pointer (some ⟨w.heap.size, 0, none⟩))) w') :
    wpList Tryd.prog ops Q (o :: rest) a w := by
  have hmp := h.mp
  cases e : S.m with
  | none =>
    rw [e] at hmp hm
    have hM : M = [] := hmp
    refine wpList_plain hg fun K' hK' => ?_
    have hrun := run_range_nilMap (P := Tryd.prog) w 45 22 51 Tryd.underlying45
    unfold Oper.wp
    simp [execOp, hop, hm, hrun, Result.andThen]
    refine hK' _ _ (hK _ (fun _ => false) 0 ?_ ?_ (by rw [hM]; rfl) (World.grownBy_alloc _ _ _) (by simp))
    · unfold RngV
      rw [e]
      exact ⟨hM, rfl, w, rfl, rfl⟩
    · rw [hM]; intro p hp; cases hp
  | some b =>
    rw [e] at hmp hm
    obtain ⟨D, n, hn, hz, hown, hi⟩ := hmp
    refine wpList_range_own w hg m 45 hop 22 51 law_u64 Tryd.underlying45 ptrR b n D hm hown fun w' h1 h2 h3 => ?_
    refine hK w' (Maps.has D) (Maps.size D) ?_ (fun p hp => ?_) hz h2 h3
    · unfold RngV
      rw [e]
      exact ⟨D, n, h1, hi⟩
    · rw [(hi p.a).1, findP_of h.nd hp]; rfl
theorem wpList_next_v (hg : o.guard = none) (it : Operand) (hop : o.op = Op.next it false) {S : VS} {M : List Pg} {r : Nat} {left : Lit → Bool} {cnt : Nat} (hit : a.eval it = .pointer (some ⟨r, 0, none⟩)) (h : RngV w S M r left cnt)
    (hDone : (∀ p ∈ M, left (keyU p.a) = false) → wpList Tryd.prog ops Q rest (a.put o.dst (.tuple #[.bool false])) w)
    (hMore : ∀ (p : Pg) (w' : World) (cnt' : Nat), findP M p.a = some p → left (keyU p.a) = true → RngV w' S M r (fun z => left z && !z.sameKey (keyU p.a)) cnt' → cnt' < cnt → w.grownBy w' (some r) → w'.heap.size = w.heap.size →
      (Instr.entry (.pointer (some ⟨r, 0, none⟩))).run Tryd.prog w' = .ok (.tuple #[.int .u64 p.a, ptrV (S.pb p.a)]) w' → wpList Tryd.prog ops Q rest (a.put o.dst (.tuple #[.bool true, .int .u64 p.a, ptrV (S.pb p.a)])) w') :
    wpList Tryd.prog ops Q (o :: rest) a w := by
  unfold RngV at h
  cases e : S.m with
  | none =>
    rw [e] at h
    obtain ⟨hM, hc, w0, rfl, rfl⟩ := h
    refine wpList_plain hg fun K' hK' => ?_
    have hnx : ∀ ty, (Instr.next (.pointer (some ⟨w0.heap.size, 0, none⟩)) false ty).run Tryd.prog (w0.alloc (.mapIter none 0 #[] 0)) = _ := fun ty => run_next_nilMap w0 ty 0 0 #[]
    unfold Oper.wp
    simp [execOp, hop, hit, hnx, Result.andThen]
    exact hK' _ _ (hDone (by rw [hM]; intro p hp; cases hp))
  | some b =>
    rw [e] at h
    obtain ⟨D, n, hrg, hi⟩ := h
    refine wpList_next_ranges w hg it hop 22 law_u64 ptrR (Value.int .u64) mkP (fun key kl hk => by obtain ⟨x, hx, _⟩ := Maps.keyOf_int_inv Tryd.underlying22 hk; exact ⟨x, hx⟩) inv_ptr b r n D left cnt hit hrg (fun _ hl => hDone (fun p _ => hl _)) ?_
    intro x cc kl y w1 cnt1 hkx hlx hvy hat hrg1 hlt hg1 hs1 hen
    obtain ⟨p, rfl, rfl, hp, hcv⟩ := entry_is hi hkx hvy hat
    rw [hcv] at hen ⊢
    refine hMore p w1 cnt1 hp hlx ?_ hlt hg1 hs1 hen
    unfold RngV
    rw [e]
    exact ⟨D, n, hrg1, hi⟩
end
theorem come_end2 {left : Lit → Bool} {M : List Pg} (h : ∀ p ∈ M, left (keyU p.a) = false) : come left M = M := by
  unfold come
  rw [List.filter_eq_self]
  intro p hp
  rw [h p hp]; rfl
theorem MapV.len {w : World} {m : Option Nat} {M : List Pg} {pb : Nat → Nat} {c : Nat} (h : MapV w m M pb c) (ty : TypeId) : (Builtin.len_ #[45] ty #[.map m]).run Tryd.prog w = .ok (.int .i64 M.length) w := by
  cases m with
  | none =>
    have : M = [] := h
    subst this
    exact Maps.len_nil Tryd.underlying45 ty
  | some b =>
    obtain ⟨D, n, hn, hz, ho, hi⟩ := h
    rw [ho.len Tryd.underlying45 ty, hz]
end Go.Proofs.YtkhfmgifpppcmaaDoor
