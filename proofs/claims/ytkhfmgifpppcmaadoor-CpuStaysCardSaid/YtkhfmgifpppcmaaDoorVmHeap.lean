/-
  What is proved here: memory in pages on the heap: what its blocks hold, against the plain words. · an entry of memory's map that a range has come to. · plain words: the pages that a range has come to.
  Conditions: as they say.
-/
import Derived.Test.YtkhfmgifpppcmaaDoorVmMath
import Derived.Test.YtkhfmgifpppcmaaDoorBaseP
import Derived.Test.YtkhfmgifpppcmaaDoorBlk
import Derived.Maps.Own
import Derived.Maps.OwnSet
import Derived.Maps.Views
import Derived.Maps.RangeWalk
namespace Go.Proofs.YtkhfmgifpppcmaaDoor
open Go.RowKit Go.WideMaps Go.Maps
set_option linter.unusedVariables false
set_option linter.unusedSimpArgs false

theorem law_u64 : Keyed Tryd.prog 22 := int_keyed Tryd.underlying22
theorem zero_pg (w : World) : (zeroValue 51).run Tryd.prog w = .ok (.pointer none) w := by kernel_rfl
def keyU (x : Nat) : Lit := .int .u64 x
theorem key_u64 {x : Nat} (h : x ≤ 18446744073709551615) : keyOf Tryd.prog 22 (.int .u64 x) = some (keyU x) := keyOf_int_mk Tryd.underlying22 (by simp [Lit.wf, IntKind.min, IntKind.max, IntKind.signed, IntKind.bits]; omega)
theorem isKeyU (x : Nat) : WideAt.IsKeyLit (keyU x) := by simp [keyU, WideAt.IsKeyLit]
theorem keyU_ne {x y : Nat} (h : x ≠ y) : keyU x ≠ keyU y := fun e => by
  unfold keyU at e
  injection e with _ e
  exact h (by omega)
/-- How a pointer to a page reads: nil, or its block's number. -/
def ptrR : Value → Option (DataW Unit × List MemPlace)
  | .pointer none => some (.lit (.bool false), [])
  | .pointer (some ⟨b, 0, none⟩) => some (.lit (.int .i64 b), [])
  | _ => none
theorem ptrR_inv_nil {v : Value} {ps : List MemPlace} (h : ptrR v = some (.lit (.bool false), ps)) : v = .pointer none := by
  unfold ptrR at h
  split at h
  · rfl
  · injection h with h; injection h with h _; injection h with h; cases h
  · cases h
theorem ptrR_inv_at {v : Value} {ps : List MemPlace} {b : Nat} (h : ptrR v = some (.lit (.int .i64 b), ps)) : v = .pointer (some ⟨b, 0, none⟩) := by
  unfold ptrR at h
  split at h
  · injection h with h; injection h with h _; injection h with h; cases h
  · rename_i b'
    injection h with h; injection h with h _; injection h with h; injection h with _ h
    have : b' = b := by omega
    subst this; rfl
  · cases h
/-- A map's datum against a list of pages. -/
def MapIs (D : DataW Unit) (M : List Pg) (pb : Nat → Nat) : Prop :=
  ∀ x : Nat, Maps.has D (keyU x) = (findP M x).isSome ∧ ∀ p, findP M x = some p → ∀ z, D.atKey (keyU x) z = .lit (.int .i64 (pb x))
theorem mapIs_nil (pb : Nat → Nat) : MapIs (.map []) [] pb := fun x => ⟨rfl, fun f h => by cases h⟩
/-- Another page at an address. -/
theorem MapIs.put {D : DataW Unit} {M N : List Pg} {pb : Nat → Nat} (h : MapIs D M pb) (hD : IsMap D) (p : Pg) {b : Nat} (hN : ∀ x, findP N x = if x = p.a then some p else findP M x) :
    MapIs (D.put (keyU p.a) (.lit (.int .i64 b))) N (fun x => if x = p.a then b else pb x) := by
  intro y
  rw [hN]
  by_cases e : y = p.a
  · subst e
    rw [if_pos rfl]
    exact ⟨by rw [has_put_same hD (isKeyU _)]; rfl, fun g hg z => by show _ = DataW.lit (.int .i64 ((if p.a = p.a then b else pb p.a : Nat) : Int)); rw [if_pos rfl]; exact atKey_put_same hD (isKeyU _) _ _⟩
  · rw [if_neg e, has_put_other (keyU_ne e)]
    exact ⟨(h y).1, fun g hg z => by show _ = DataW.lit (.int .i64 ((if y = p.a then b else pb y : Nat) : Int)); rw [if_neg e, atKey_put_other (keyU_ne e)]; exact (h y).2 g hg z⟩
theorem MapIs.del {D : DataW Unit} {M N : List Pg} {pb : Nat → Nat} (h : MapIs D M pb) (a : Nat) (hN : ∀ x, findP N x = if x = a then none else findP M x) : MapIs (D.del (keyU a)) N pb := by
  intro y
  rw [hN]
  by_cases e : y = a
  · subst e
    rw [if_pos rfl]
    exact ⟨by rw [has_del_same]; rfl, fun g hg => by cases hg⟩
  · rw [if_neg e, has_del_other (keyU_ne e)]
    exact ⟨(h y).1, fun g hg z => by rw [atKey_del_other (keyU_ne e)]; exact (h y).2 g hg z⟩
/-- The pages' map: nil, or a map. -/
def MapV (w : World) (m : Option Nat) (M : List Pg) (pb : Nat → Nat) (c : Nat) : Prop :=
  match m with
  | none => M = []
  | some b => ∃ D n, n ≤ c ∧ Maps.size D = M.length ∧ w.ownsMap Tryd.prog 22 ptrR b n D ∧ MapIs D M pb
theorem MapV.kept {w w' : World} {m : Option Nat} {M : List Pg} {pb : Nat → Nat} {c : Nat} {row : Option Nat} (h : MapV w m M pb c) (hg : w.grownBy w' row) (hne : ∀ b, m = some b → some b ≠ row) : MapV w' m M pb c := by
  cases m with
  | none => exact h
  | some b =>
    obtain ⟨D, n, hn, hz, ho, hi⟩ := h
    exact ⟨D, n, hn, hz, ho.kept hg (hne b rfl), hi⟩
/-- What a look-up tells. -/
def pageP (pb : Nat → Nat) (x : Nat) : Option Pg → Value
  | none => .pointer none
  | some _ => .pointer (some ⟨pb x, 0, none⟩)
theorem MapV.look {w : World} {m : Option Nat} {M : List Pg} {pb : Nat → Nat} {c : Nat} (h : MapV w m M pb c) {x : Nat} (hx : x ≤ 18446744073709551615) :
    (Instr.lookup 45 (.map m) (.int .u64 x) false).run Tryd.prog w = .ok (pageP pb x (findP M x)) w := by
  cases m with
  | none =>
    have : M = [] := h
    subst this
    have := Maps.look_nil (w := w) false law_u64 Tryd.underlying45 (zero_pg w) (key_u64 hx)
    rw [this]; rfl
  | some b =>
    obtain ⟨D, n, hn, hz, ho, hi⟩ := h
    obtain ⟨v, ps, hr, hv⟩ := ho.lookup law_u64 Tryd.underlying45 (zero_pg w) (zd := .lit (.bool false)) (zp := []) rfl (key_u64 hx)
    rw [hr]
    obtain ⟨h1, h2⟩ := hi x
    cases e : findP M x with
    | none =>
      rw [e] at h1
      have hat : D.atKey (keyU x) (.lit (.bool false)) = .lit (.bool false) := atKey_of_not_has (by simpa using h1) _
      rw [hat] at hv
      rw [ptrR_inv_nil hv]; rfl
    | some p =>
      rw [h2 p e] at hv
      rw [ptrR_inv_at hv]; rfl
/-- A page's own cells. -/
def pgC (p : Pg) : Array Value := (.int .i64 p.prot :: .bool p.dirty :: .string p.file :: .int .u64 p.off :: p.b.map (Value.int .u8)).toArray
/-- Memory's shape on the heap. -/
structure VS where
  g : Nat
  m : Option Nat
  pb : Nat → Nat
  own : Nat → Prop
structure VAt (w : World) (S : VS) (M : List Pg) (c : Nat) : Prop where
  sp : Blk w S.g #[.map S.m] 47
  mp : MapV w S.m M S.pb c
  pg : ∀ p ∈ M, Blk w (S.pb p.a) (pgC p) 54
  inj : ∀ p ∈ M, ∀ q ∈ M, S.pb p.a = S.pb q.a → p.a = q.a
  ok : ∀ p ∈ M, p.Ok
  so : (M.map (·.a)).Pairwise (· < ·)
  le : M.length ≤ 512
  og : S.own S.g
  om : ∀ b, S.m = some b → S.own b
  op : ∀ p ∈ M, S.own (S.pb p.a)
  sm : ∀ k, S.own k → k < w.heap.size
theorem VAt.nd {w : World} {S : VS} {M : List Pg} {c : Nat} (h : VAt w S M c) : (M.map (·.a)).Nodup := h.so.imp (fun h => Nat.ne_of_lt h)
theorem Blk.turn {w w' : World} {g : Nat} {C : Array Value} {t : TypeId} {row : Option Nat} (h : Blk w g C t) (hg : w.grownBy w' row) (hne : some g ≠ row) : Blk w' g C t := by
  unfold Blk
  rw [hg.block g h.lt hne]; exact h
theorem blk_same {w w' : World} {g : Nat} {C : Array Value} {t : TypeId} (h : Blk w g C t) (e : w'.heap[g]? = w.heap[g]?) : Blk w' g C t := by
  unfold Blk; rw [e]; exact h
theorem MapV.same {w w' : World} {m : Option Nat} {M : List Pg} {pb : Nat → Nat} {c : Nat} (h : MapV w m M pb c) (hs : ∀ b, m = some b → w'.heap[b]? = w.heap[b]?) : MapV w' m M pb c := by
  cases m with
  | none => exact h
  | some b =>
    obtain ⟨D, n, hn, hz, ⟨es, cl, hb, r⟩, hi⟩ := h
    exact ⟨D, n, hn, hz, ⟨es, cl, by rw [hs b rfl]; exact hb, r⟩, hi⟩
/-- Elsewhere something turns, or is made. -/
theorem VAt.same {w w' : World} {S : VS} {M : List Pg} {c : Nat} (h : VAt w S M c) (hs : ∀ k, S.own k → w'.heap[k]? = w.heap[k]?) (hz : w.heap.size ≤ w'.heap.size) : VAt w' S M c :=
  ⟨blk_same h.sp (hs _ h.og), h.mp.same (fun b hb => hs b (h.om b hb)), fun p hp => blk_same (h.pg p hp) (hs _ (h.op p hp)), h.inj, h.ok, h.so, h.le, h.og, h.om, h.op, fun k hk => Nat.lt_of_lt_of_le (h.sm k hk) hz⟩
theorem VAt.grown {w w' : World} {S : VS} {M : List Pg} {c : Nat} {row : Option Nat} (h : VAt w S M c) (hg : w.grownBy w' row) (hr : ∀ k, row = some k → ¬ S.own k) : VAt w' S M c :=
  h.same (fun k hk => hg.block k (h.sm k hk) (fun ee => hr k ee.symm hk)) hg.size
theorem VAt.below {w w' : World} {S : VS} {M : List Pg} {c : Nat} (h : VAt w S M c) (hb : Below w.heap.size w w') : VAt w' S M c := h.same (fun k hk => hb.block k (h.sm k hk)) hb.size
def ptrV (b : Nat) : Value := .pointer (some ⟨b, 0, none⟩)
theorem pg_cells {w : World} {b : Nat} {p : Pg} (h : Blk w b (pgC p) 54) (hl : p.b.length = 256) : w.cell? ⟨b, 0, none⟩ = some (.int .i64 p.prot) ∧ w.cell? ⟨b, 1, none⟩ = some (.bool p.dirty) ∧ w.cell? ⟨b, 2, none⟩ = some (.string p.file) ∧ w.cell? ⟨b, 3, none⟩ = some (.int .u64 p.off) ∧ ∀ i, i < 256 → w.cell? ⟨b, 4 + i, none⟩ = some (.int .u8 (p.b.getD i 0)) := by
  refine ⟨h.cell 0, h.cell 1, h.cell 2, h.cell 3, fun i hi => ?_⟩
  have := h.cell (4 + i)
  rw [this]
  unfold pgC
  rw [List.getElem?_toArray, show 4 + i = i + 1 + 1 + 1 + 1 by omega]
  simp only [List.getElem?_cons_succ, List.getElem?_map]
  rw [List.getElem?_eq_getElem (by omega), List.getD_eq_getElem?_getD, List.getElem?_eq_getElem (by omega)]; rfl
end Go.Proofs.YtkhfmgifpppcmaaDoor
namespace Go.Proofs.YtkhfmgifpppcmaaDoor
open Go.RowKit Go.WideMaps Go.Maps
set_option linter.unusedVariables false
set_option linter.unusedSimpArgs false

def mkP : Option Nat → Value
  | none => .pointer none
  | some b => .pointer (some ⟨b, 0, none⟩)
theorem inv_ptr (v : Value) (y : DataW Unit × List MemPlace) (h : ptrR v = some y) : ∃ c, v = mkP c := by
  unfold ptrR at h
  split at h
  · exact ⟨none, rfl⟩
  · exact ⟨some _, rfl⟩
  · cases h
theorem key_inv {z : Int} {kl : Lit} (h : keyOf Tryd.prog 22 (.int .u64 z) = some kl) : kl = .int .u64 z ∧ 0 ≤ z ∧ z ≤ 18446744073709551615 := by
  simp [keyOf, Tryd.underlying22, mapKey] at h
  obtain ⟨h1, h2⟩ := h
  refine ⟨h2.symm, ?_⟩
  simp [Lit.wf, IntKind.min, IntKind.max, IntKind.signed, IntKind.bits] at h1
  omega
theorem entry_is {D : DataW Unit} {M : List Pg} {pb : Nat → Nat} (h : MapIs D M pb) {z : Int} {c : Option Nat} {kl : Lit} {y : DataW Unit × List MemPlace} (hk : keyOf Tryd.prog 22 (.int .u64 z) = some kl) (hv : ptrR (mkP c) = some y) (ha : ∀ zd, D.atKey kl zd = y.1) :
    ∃ p : Pg, z = p.a ∧ kl = keyU p.a ∧ findP M p.a = some p ∧ mkP c = .pointer (some ⟨pb p.a, 0, none⟩) := by
  obtain ⟨e, z0, z1⟩ := key_inv hk
  obtain ⟨x, rfl⟩ : ∃ x : Nat, z = x := ⟨z.toNat, by omega⟩
  subst e
  obtain ⟨h1, h2⟩ := h x
  have hh : Maps.has D (keyU x) = true := has_true_of_atKey ha
  rw [hh] at h1
  obtain ⟨p, hp⟩ := Option.isSome_iff_exists.1 h1.symm
  obtain ⟨_, e⟩ := findP_mem hp
  subst e
  refine ⟨p, rfl, rfl, hp, ?_⟩
  have := h2 p hp (.lit (.bool false))
  unfold keyU at this
  rw [ha] at this
  obtain ⟨y1, y2⟩ := y
  simp only at this
  subst this
  exact ptrR_inv_at hv
end Go.Proofs.YtkhfmgifpppcmaaDoor
namespace Go.Proofs.YtkhfmgifpppcmaaDoor
open Go.RowKit Go.WideMaps Go.Maps
set_option linter.unusedVariables false
set_option linter.unusedSimpArgs false

/-- The pages that have come. -/
def come (left : Lit → Bool) (M : List Pg) : List Pg := M.filter (fun p => !left (keyU p.a))
theorem come_sub (left : Lit → Bool) (M : List Pg) : (come left M).Sublist M := List.filter_sublist
theorem come_so {left : Lit → Bool} {M : List Pg} (h : (M.map (·.a)).Pairwise (· < ·)) : ((come left M).map (·.a)).Pairwise (· < ·) := h.sublist ((come_sub left M).map _)
theorem come_find (left : Lit → Bool) : ∀ (M : List Pg) (x : Nat), findP (come left M) x = if left (keyU x) = true then none else findP M x
  | [], x => by
    show none = _
    by_cases e : left (keyU x) = true
    · rw [if_pos e]
    · rw [if_neg e]; rfl
  | p :: r, x => by
    have ih := come_find left r x
    unfold come at *
    by_cases e : left (keyU p.a) = true
    · rw [List.filter_cons_of_neg (by rw [e]; decide), ih, findP_cons]
      by_cases e2 : p.a = x
      · rw [← e2, if_pos e, if_pos e]
      · rw [if_neg e2]
    · have ef : left (keyU p.a) = false := by simpa using e
      rw [List.filter_cons_of_pos (by rw [ef]; decide), findP_cons, findP_cons, ih]
      by_cases e2 : p.a = x
      · rw [if_pos e2, if_pos e2, ← e2, if_neg e]
      · rw [if_neg e2, if_neg e2]
theorem come_start {left : Lit → Bool} {M : List Pg} (h : ∀ p ∈ M, left (keyU p.a) = true) : come left M = [] := by
  unfold come
  rw [List.filter_eq_nil_iff]
  intro p hp
  rw [h p hp]; decide
theorem come_end {left : Lit → Bool} (h : ∀ k, left k = false) (M : List Pg) : come left M = M := by
  unfold come
  rw [List.filter_eq_self]
  intro p hp
  rw [h]; rfl
theorem key_same {x y : Nat} : (keyU x).sameKey (keyU y) = decide (x = y) := by
  by_cases h : x = y
  · subst h
    rw [WideAt.sameKey_self (isKeyU x)]; simp
  · rw [sameKey_ne (keyU_ne h)]; simp [h]
theorem come_step {left : Lit → Bool} {M : List Pg} {p : Pg} (hs : (M.map (·.a)).Pairwise (· < ·)) (hp : findP M p.a = some p) (hl : left (keyU p.a) = true) :
    findP (come left M) p.a = none ∧ insP (come left M) p = come (fun z => left z && !z.sameKey (keyU p.a)) M ∧ (come left M).length < M.length := by
  have hn : findP (come left M) p.a = none := by rw [come_find, if_pos hl]
  have he : insP (come left M) p = come (fun z => left z && !z.sameKey (keyU p.a)) M := by
    refine so_ext (ins_so (come_so hs) hn) (come_so hs) (fun x => ?_)
    rw [ins_find x hn, come_find, come_find]
    by_cases e : x = p.a
    · subst e
      have e1 : (keyU p.a).sameKey (keyU p.a) = true := by rw [key_same]; simp
      rw [if_pos rfl]
      simp only [e1, Bool.not_true, Bool.and_false, Bool.false_eq_true, if_false]
      exact hp.symm
    · have e1 : (keyU x).sameKey (keyU p.a) = false := by rw [key_same]; simp [e]
      rw [if_neg e]
      simp only [e1, Bool.not_false, Bool.and_true]
  refine ⟨hn, he, ?_⟩
  have h1 := (come_sub (fun z => left z && !z.sameKey (keyU p.a)) M).length_le
  rw [← he, ins_len] at h1
  exact h1
end Go.Proofs.YtkhfmgifpppcmaaDoor
