/-
  What is proved here: a disk on the heap: what its blocks hold, against the plain words (Dk); what stays where one block turns. · 'At': a disk on the heap is as the plain words say; what each kind of step leaves of it. · what a step on one state of a disk leaves (Mv), what it makes of the files and directories (Fs). · find, ready, put of package disk.
  Conditions: as they say.
-/
import Derived.Test.YthogdieplfpopaaDskA
import Derived.Test.YthogdieplfpopaaBaseP
import Derived.Test.YthogdieplfpopaaBlk
import Derived.Maps.Own
import Derived.Maps.OwnSet
import Derived.Maps.Views
namespace Go.Proofs.Ythogdieplfpopaa
open Go.RowKit Go.WideMaps Go.Maps
set_option linter.unusedVariables false
set_option linter.unusedSimpArgs false

theorem law_str : Keyed Try.prog 9 := string_keyed Try.underlying9
theorem zero_pf (w : World) : (zeroValue 73).run Try.prog w = .ok (.pointer none) w := by kernel_rfl
def keyS (x : ByteArray) : Lit := .string x.data.toList
theorem key_str {x : ByteArray} (h : x.size ≤ maxLen) : keyOf Try.prog 9 (.string x) = some (keyS x) := by
  have := Try.underlying9
  simp [keyOf, this, mapKey, keyS, h]
theorem isKeyS (x : ByteArray) : WideAt.IsKeyLit (keyS x) := by simp [keyS, WideAt.IsKeyLit]
theorem keyS_ne {x y : ByteArray} (h : x ≠ y) : keyS x ≠ keyS y := fun e => by
  unfold keyS at e
  injection e with e
  exact h (ByteArray.ext (Array.ext' e))
/-- How a pointer to a file reads: nil, or its block's number. -/
def ptrR : Value → Option (DataW Unit × List MemPlace)
  | .pointer none => some (.lit (.bool false), [])
  | .pointer (some ⟨b, 0, none⟩) => some (.lit (.int .i64 b), [])
  | _ => none
theorem ptrR_inv_nil {v : Value} {ps : List MemPlace} (h : ptrR v = some (.lit (.bool false), ps)) : v = .pointer none := by
  unfold ptrR at h
  split at h
  · rfl
  · injection h with h; injection h with h _; injection h with h; cases h
  · cases h
theorem ptrR_inv_at {v : Value} {ps : List MemPlace} {b : Nat} (h : ptrR v = some (.lit (.int .i64 b), ps)) : v = .pointer (some ⟨b, 0, none⟩) := by
  unfold ptrR at h
  split at h
  · injection h with h; injection h with h _; injection h with h; cases h
  · rename_i b'
    injection h with h; injection h with h _; injection h with h; injection h with _ h
    have : b' = b := by omega
    subst this; rfl
  · cases h
/-- A map's datum against a list of names. -/
def MapIs (D : DataW Unit) (L : List Dn) (fb : Nat → Nat) : Prop :=
  ∀ x : ByteArray, Maps.has D (keyS x) = (findD L x).isSome ∧ ∀ f, findD L x = some f → ∀ z, D.atKey (keyS x) z = .lit (.int .i64 (fb f))
theorem mapIs_nil (fb : Nat → Nat) : MapIs (.map []) [] fb := fun x => ⟨rfl, fun f h => by cases h⟩
theorem MapIs.put {D : DataW Unit} {L : List Dn} {fb : Nat → Nat} (h : MapIs D L fb) (hD : IsMap D) (x : ByteArray) (f : Nat) : MapIs (D.put (keyS x) (.lit (.int .i64 (fb f)))) (withD L x f) fb := by
  intro y
  rw [find_with]
  by_cases e : y = x
  · subst e
    rw [if_pos rfl]
    exact ⟨by rw [has_put_same hD (isKeyS _)]; rfl, fun g hg z => by injection hg with hg; subst hg; exact atKey_put_same hD (isKeyS _) _ _⟩
  · rw [if_neg e, has_put_other (keyS_ne e)]
    exact ⟨(h y).1, fun g hg z => by rw [atKey_put_other (keyS_ne e)]; exact (h y).2 g hg z⟩
theorem MapIs.del {D : DataW Unit} {L : List Dn} {fb : Nat → Nat} (h : MapIs D L fb) (x : ByteArray) : MapIs (D.del (keyS x)) (withoutD L x) fb := by
  intro y
  rw [find_without]
  by_cases e : y = x
  · subst e
    rw [if_pos rfl]
    exact ⟨by rw [has_del_same]; rfl, fun g hg => by cases hg⟩
  · rw [if_neg e, has_del_other (keyS_ne e)]
    exact ⟨(h y).1, fun g hg z => by rw [atKey_del_other (keyS_ne e)]; exact (h y).2 g hg z⟩
theorem MapIs.more {D : DataW Unit} {L : List Dn} {fb fb' : Nat → Nat} (h : MapIs D L fb) (he : ∀ x f, findD L x = some f → fb' f = fb f) : MapIs D L fb' :=
  fun y => ⟨(h y).1, fun g hg z => by rw [he y g hg]; exact (h y).2 g hg z⟩
/-- A directory: nil, or a map. -/
def MapV (w : World) (m : Option Nat) (L : List Dn) (fb : Nat → Nat) (c : Nat) : Prop :=
  match m with
  | none => L = []
  | some b => ∃ D n, n ≤ c ∧ w.ownsMap Try.prog 9 ptrR b n D ∧ MapIs D L fb
theorem MapV.kept {w w' : World} {m : Option Nat} {L : List Dn} {fb : Nat → Nat} {c : Nat} {row : Option Nat} (h : MapV w m L fb c) (hg : w.grownBy w' row) (hne : ∀ b, m = some b → some b ≠ row) : MapV w' m L fb c := by
  cases m with
  | none => exact h
  | some b =>
    obtain ⟨D, n, hn, ho, hi⟩ := h
    exact ⟨D, n, hn, ho.kept hg (hne b rfl), hi⟩
theorem MapV.up {w : World} {m : Option Nat} {L : List Dn} {fb : Nat → Nat} {c c' : Nat} (h : MapV w m L fb c) (hc : c ≤ c') : MapV w m L fb c' := by
  cases m with
  | none => exact h
  | some b =>
    obtain ⟨D, n, hn, ho, hi⟩ := h
    exact ⟨D, n, Nat.le_trans hn hc, ho, hi⟩
theorem MapV.more {w : World} {m : Option Nat} {L : List Dn} {fb fb' : Nat → Nat} {c : Nat} (h : MapV w m L fb c) (he : ∀ x f, findD L x = some f → fb' f = fb f) : MapV w m L fb' c := by
  cases m with
  | none => exact h
  | some b =>
    obtain ⟨D, n, hn, ho, hi⟩ := h
    exact ⟨D, n, hn, ho, hi.more he⟩
/-- What a look-up in a directory tells. -/
def fileP (fb : Nat → Nat) : Option Nat → Value
  | none => .pointer none
  | some f => .pointer (some ⟨fb f, 0, none⟩)
theorem MapV.look {w : World} {m : Option Nat} {L : List Dn} {fb : Nat → Nat} {c : Nat} (h : MapV w m L fb c) {x : ByteArray} (hx : x.size ≤ maxLen) :
    (Instr.lookup 59 (.map m) (.string x) false).run Try.prog w = .ok (fileP fb (findD L x)) w := by
  cases m with
  | none =>
    have : L = [] := h
    subst this
    have := Maps.look_nil (w := w) false law_str Try.underlying59 (zero_pf w) (key_str hx)
    rw [this]; rfl
  | some b =>
    obtain ⟨D, n, hn, ho, hi⟩ := h
    obtain ⟨v, ps, hr, hv⟩ := ho.lookup law_str Try.underlying59 (zero_pf w) (zd := .lit (.bool false)) (zp := []) rfl (key_str hx)
    rw [hr]
    obtain ⟨h1, h2⟩ := hi x
    cases e : findD L x with
    | none =>
      rw [e] at h1
      have hat : D.atKey (keyS x) (.lit (.bool false)) = .lit (.bool false) := atKey_of_not_has (by simpa using h1) _
      rw [hat] at hv
      rw [ptrR_inv_nil hv]; rfl
    | some f =>
      rw [h2 f e] at hv
      rw [ptrR_inv_at hv]; rfl
/-! ### blocks -/
theorem Blk.turn {w w' : World} {g : Nat} {C : Array Value} {t : TypeId} {row : Option Nat} (h : Blk w g C t) (hg : w.grownBy w' row) (hne : some g ≠ row) : Blk w' g C t := by
  unfold Blk
  rw [hg.block g h.lt hne]; exact h
theorem blk_ne {w : World} {a b : Nat} {C C' : Array Value} {t t' : TypeId} (h : Blk w a C t) (h' : Blk w b C' t') (ht : t ≠ t') : a ≠ b := fun e => by
  subst e
  unfold Blk at h h'
  rw [h] at h'
  injection h' with h'
  injection h' with _ h'
  exact ht h'
theorem row_blk_ne {w : World} {a base s n : Nat} {v : Value} {xs : List Value} {C : Array Value} {t e : TypeId} (h : w.ownsRow base e s v n xs) (h' : Blk w a C t) (ht : e ≠ t) : v.ownBlock ≠ some a := fun ee => by
  rcases h.2 with ⟨rfl, _⟩ | ⟨g, cap, cur, rfl, _, hg, _⟩
  · cases ee
  · injection ee with ee
    have ee : g = a := ee
    subst ee
    unfold Blk at h'
    rw [hg] at h'
    injection h' with h'
    injection h' with _ h'
    exact ht h'
theorem row_row_ne {w : World} {base base' s s' n n' : Nat} {v v' : Value} {xs xs' : List Value} {e e' : TypeId} (h : w.ownsRow base e s v n xs) (h' : w.ownsRow base' e' s' v' n' xs') (ht : e ≠ e') {k : Nat} (hk : v.ownBlock = some k) : v'.ownBlock ≠ some k := fun ee => by
  rcases h.2 with ⟨rfl, _⟩ | ⟨g, cap, cur, rfl, _, hg, _⟩
  · cases hk
  rcases h'.2 with ⟨rfl, _⟩ | ⟨g', cap', cur', rfl, _, hg', _⟩
  · cases ee
  injection hk with hk
  injection ee with ee
  have hk : g = k := hk
  have ee : g' = k := ee
  subst hk
  subst ee
  rw [hg] at hg'
  injection hg' with hg'
  injection hg' with _ hg'
  exact ht hg'
theorem map_blk_ne {w : World} {a b n : Nat} {D : DataW Unit} {C : Array Value} {t k : TypeId} {R : Value → Option (DataW Unit × List MemPlace)} (h : w.ownsMap Try.prog k R b n D) (h' : Blk w a C t) : b ≠ a := fun e => by
  subst e
  obtain ⟨es, cl, hb, _⟩ := h
  unfold Blk at h'
  rw [hb] at h'
  injection h' with h'
  cases h'
theorem map_row_ne {w : World} {b n base s m : Nat} {D : DataW Unit} {v : Value} {xs : List Value} {e k : TypeId} {R : Value → Option (DataW Unit × List MemPlace)} (h : w.ownsMap Try.prog k R b n D) (h' : w.ownsRow base e s v m xs) : v.ownBlock ≠ some b := fun ee => by
  obtain ⟨es, cl, hb, _⟩ := h
  rcases h'.2 with ⟨rfl, _⟩ | ⟨g, cap, cur, rfl, _, hg, _⟩
  · cases ee
  · injection ee with ee
    have ee : g = b := ee
    subst ee
    rw [hb] at hg
    injection hg with hg
    cases hg
theorem row_keep {w w' : World} {base s n : Nat} {v : Value} {xs : List Value} {e : TypeId} {row : Option Nat} (h : w.ownsRow base e s v n xs) (hg : w.grownBy w' row) (hne : ∀ k, row = some k → v.ownBlock ≠ some k) : w'.ownsRow base e s v n xs := by
  refine h.kept hg ?_
  cases hb : v.ownBlock with
  | none => exact .inl rfl
  | some k => exact .inr fun e => hne k e.symm hb
theorem grown_set (w : World) (g i : Nat) (u : Value) : w.grownBy (w.setCell ⟨g, i, none⟩ u) (some g) := by
  refine ⟨rfl, rfl, rfl, by simp [World.setCell], fun k hk hne => ?_⟩
  unfold World.setCell
  simp only
  rw [Array.getElem?_modify, if_neg (fun e => hne (by rw [e]))]
theorem Blk.put {w : World} {g : Nat} {C : Array Value} {t : TypeId} (h : Blk w g C t) (i : Nat) (u : Value) : Blk (w.setCell ⟨g, i, none⟩ u) g (C.setIfInBounds i u) t := by
  unfold Blk at *
  simp [World.setCell, h, Array.getElem?_modify]
end Go.Proofs.Ythogdieplfpopaa
namespace Go.Proofs.Ythogdieplfpopaa
open Go.RowKit Go.WideMaps Go.Maps
set_option linter.unusedVariables false
set_option linter.unusedSimpArgs false

/-- A file on the heap: its block, its bytes as they are, as they are sure. -/
structure Fl where
  b : Nat
  v0 : Value
  v1 : Value
def fl0 : Fl := ⟨0, .slice none 0 0, .slice none 0 0⟩
def do0 : Do := ⟨0, 0, 0, [], .empty, .empty⟩
/-- A disk's shape on the heap. -/
structure Sh where
  g : Nat
  m0 : Option Nat
  m1 : Option Nat
  pv : Value
  left : Int
  fl : List Fl
  pc : List Value
  own : Nat → Prop
  live : Nat → Prop
def Sh.fb (S : Sh) (i : Nat) : Nat := (S.fl.getD i fl0).b
def Sh.row (S : Sh) (i : Nat) (s : Bool) : Value := if s = true then (S.fl.getD i fl0).v1 else (S.fl.getD i fl0).v0
def Dk.of (d : Dk) (i : Nat) (s : Bool) : List Int := if s = true then d.su.getD i [] else d.is.getD i []
def ptrV (b : Nat) : Value := .pointer (some ⟨b, 0, none⟩)
def u8V (zs : List Int) : List Value := zs.map (Value.int .u8)
/-- A pending operation on the heap: the file, the closure. -/
def OpAt (w : World) (S : Sh) (e : Nat) (o : Do) (c0 c1 : Value) : Prop :=
  (o.k = 1 ∧ c0 = ptrV (S.fb o.f) ∧ ∃ bf ba bb cap a, c1 = .func (.func 81) #[] #[ptrV bf, ptrV ba, ptrV bb] ∧ Blk w bf #[ptrV (S.fb o.f)] 73 ∧ Blk w ba #[.int .i64 o.p] 3 ∧
    Blk w bb #[.slice a o.b.length cap] 32 ∧ w.ownsRow 0 5 1 (.slice a o.b.length cap) o.b.length (u8V o.b) ∧ (∀ n ∈ o.b, 0 ≤ n ∧ n ≤ 255) ∧ S.own bf ∧ S.own ba ∧ S.own bb ∧ (∀ k, (Value.slice a o.b.length cap).ownBlock = some k → S.own k) ∧
    (∀ i s k, S.live i → (Value.slice a o.b.length cap).ownBlock = some k → (S.row i s).ownBlock ≠ some k) ∧ o.p + o.b.length ≤ e ∧ S.live o.f) ∨
  (o.k = 2 ∧ c0 = .pointer none ∧ ∃ bd bn bf, c1 = .func (.func 79) #[] #[ptrV bd, ptrV bn, ptrV bf] ∧ Blk w bd #[ptrV S.g] 24 ∧ Blk w bn #[.string o.to] 9 ∧ Blk w bf #[ptrV (S.fb o.f)] 73 ∧ S.own bd ∧ S.own bn ∧ S.own bf ∧ S.live o.f ∧ o.to.size ≤ maxLen) ∨
  (o.k = 3 ∧ c0 = .pointer none ∧ ∃ bd ba bb, c1 = .func (.func 84) #[] #[ptrV bd, ptrV ba, ptrV bb] ∧ Blk w bd #[ptrV S.g] 24 ∧ Blk w ba #[.string o.fr] 9 ∧ Blk w bb #[.string o.to] 9 ∧ S.own bd ∧ S.own ba ∧ S.own bb ∧ o.fr.size ≤ maxLen ∧ o.to.size ≤ maxLen) ∨
  (o.k = 4 ∧ c0 = .pointer none ∧ ∃ bd bn, c1 = .func (.func 85) #[] #[ptrV bd, ptrV bn] ∧ Blk w bd #[ptrV S.g] 24 ∧ Blk w bn #[.string o.fr] 9 ∧ S.own bd ∧ S.own bn ∧ o.fr.size ≤ maxLen)
/-- All but the disk's own block and what is pending: files, directories. -/
structure Fs (w : World) (S : Sh) (d : Dk) (c e : Nat) : Prop where
  n0 : d.is.length = S.fl.length
  n1 : d.su.length = S.fl.length
  lt : ∀ i, S.live i → i < S.fl.length
  file : ∀ i, S.live i → Blk w (S.fb i) #[S.row i false, S.row i true] 88
  row : ∀ i s, S.live i → w.ownsRow 0 5 1 (S.row i s) (d.of i s).length (u8V (d.of i s))
  bd : ∀ i s, S.live i → ∀ n ∈ d.of i s, 0 ≤ n ∧ n ≤ 255
  len : ∀ i s, S.live i → (d.of i s).length ≤ e
  inj : ∀ i j, S.live i → S.live j → S.fb i = S.fb j → i = j
  sep : ∀ i s j t k, S.live i → S.live j → (S.row i s).ownBlock = some k → (S.row j t).ownBlock = some k → i = j ∧ s = t
  mp0 : MapV w S.m0 d.l S.fb c
  mp1 : MapV w S.m1 d.s S.fb c
  mne : ∀ b, S.m0 = some b → S.m1 ≠ some b
  nam0 : ∀ x ∈ d.l, S.live x.f
  nam1 : ∀ x ∈ d.s, S.live x.f
  nd0 : (d.l.map (·.n)).Nodup
  nd1 : (d.s.map (·.n)).Nodup
  sz0 : ∀ x ∈ d.l, x.n.size ≤ maxLen
  sz1 : ∀ x ∈ d.s, x.n.size ≤ maxLen
  of : ∀ i, S.live i → S.own (S.fb i)
  or : ∀ i s k, S.live i → (S.row i s).ownBlock = some k → S.own k
  om0 : ∀ b, S.m0 = some b → S.own b
  om1 : ∀ b, S.m1 = some b → S.own b
structure Pn (w : World) (S : Sh) (d : Dk) (c e : Nat) : Prop where
  pend : w.ownsRow 0 83 2 S.pv d.wait.length S.pc
  ops : ∀ j, j < d.wait.length → OpAt w S e (d.wait.getD j do0) (S.pc.getD (2 * j) undef) (S.pc.getD (2 * j + 1) undef)
  le : d.wait.length ≤ c
  op : ∀ k, S.pv.ownBlock = some k → S.own k
/-- A disk's own cells. -/
def dskC (S : Sh) (d : Dk) : Array Value := #[.int .i64 d.room, .map S.m0, .map S.m1, S.pv, .int .i64 S.left, .bool d.off]
structure Ds (w : World) (S : Sh) (d : Dk) : Prop where
  disk : Blk w S.g (dskC S d) 63
  cut : d.cut = if 0 < S.left then S.left else 0
  lb : -9223372036854775808 ≤ S.left ∧ S.left ≤ 9223372036854775807
  rb : 0 ≤ d.room ∧ d.room ≤ 9223372036854775807
  og : S.own S.g
structure At (w : World) (S : Sh) (d : Dk) (c e : Nat) : Prop where
  ds : Ds w S d
  fs : Fs w S d c e
  pn : Pn w S d c e
  sm : ∀ k, S.own k → k < w.heap.size
/-! ### what stays -/
theorem OpAt.kept {w w' : World} {S : Sh} {e : Nat} {o : Do} {c0 c1 : Value} {row : Option Nat} (h : OpAt w S e o c0 c1) (hg : w.grownBy w' row)
    (h1 : ∀ k t C, row = some k → Blk w k C t → t ≠ 73 ∧ t ≠ 24 ∧ t ≠ 9 ∧ t ≠ 3 ∧ t ≠ 32)
    (h2 : ∀ k, row = some k → (∃ C t, Blk w k C t ∧ t ≠ 5) ∨ (∃ es cl, w.heap[k]? = some (.map es cl)) ∨ (∃ i s, S.live i ∧ (S.row i s).ownBlock = some k)) : OpAt w' S e o c0 c1 := by
  have hb : ∀ {g : Nat} {C : Array Value} {t : TypeId}, Blk w g C t → (t = 73 ∨ t = 24 ∨ t = 9 ∨ t = 3 ∨ t = 32) → Blk w' g C t := fun {g C t} h ht => h.turn hg (fun e => by
    obtain ⟨a1, a2, a3, a4, a5⟩ := h1 g t C e.symm h
    rcases ht with ht | ht | ht | ht | ht
    · exact a1 ht
    · exact a2 ht
    · exact a3 ht
    · exact a4 ht
    · exact a5 ht)
  rcases h with ⟨k1, r0, bf, ba, bb, cap, a, r1, x1, x2, x3, x4, x5, x6, x7, x8, x9, x10, x11, x12⟩ | ⟨k1, r0, bd, bn, bf, r1, x1, x2, x3, x4⟩ | ⟨k1, r0, bd, ba, bb, r1, x1, x2, x3, x4⟩ | ⟨k1, r0, bd, bn, r1, x1, x2, x3⟩
  · refine .inl ⟨k1, r0, bf, ba, bb, cap, a, r1, hb x1 (by simp), hb x2 (by simp), hb x3 (by simp), ?_, x5, x6, x7, x8, x9, x10, x11, x12⟩
    refine row_keep x4 hg fun k hk hkb => ?_
    rcases h2 k hk with ⟨C, t, hB, ht⟩ | ⟨es, cl, hm⟩ | ⟨i, s, hl, hr⟩
    · exact row_blk_ne x4 hB (fun e => ht e.symm) hkb
    · rcases x4.2 with ⟨e, _⟩ | ⟨g, cap', cur, ee, _, hgg, _⟩
      · rw [e] at hkb; cases hkb
      · rw [ee] at hkb
        injection hkb with hkb
        have hkb : g = k := hkb
        subst hkb
        rw [hm] at hgg
        injection hgg with hgg
        cases hgg
    · exact x10 i s k hl hkb hr
  · exact .inr (.inl ⟨k1, r0, bd, bn, bf, r1, hb x1 (by simp), hb x2 (by simp), hb x3 (by simp), x4⟩)
  · exact .inr (.inr (.inl ⟨k1, r0, bd, ba, bb, r1, hb x1 (by simp), hb x2 (by simp), hb x3 (by simp), x4⟩))
  · exact .inr (.inr (.inr ⟨k1, r0, bd, bn, r1, hb x1 (by simp), hb x2 (by simp), x3⟩))
end Go.Proofs.Ythogdieplfpopaa
namespace Go.Proofs.Ythogdieplfpopaa
open Go.RowKit Go.WideMaps Go.Maps
set_option linter.unusedVariables false
set_option linter.unusedSimpArgs false

/-- The blocks that a step on a state may turn. -/
def Exm (w : World) (S : Sh) (k : Nat) : Prop :=
  (∃ C, Blk w k C 63) ∨ (∃ C, Blk w k C 88) ∨ (∃ es cl, w.heap[k]? = some (.map es cl)) ∨ ((∃ C, Blk w k C 5) ∧ ∃ i s, S.live i ∧ (S.row i s).ownBlock = some k)
structure Mv (w w' : World) (S S' : Sh) : Prop where
  os : w'.os = w.os
  tape : w'.tape = w.tape
  output : w'.output = w.output
  size : w.heap.size ≤ w'.heap.size
  blk : ∀ k, k < w.heap.size → ¬ Exm w S k → w'.heap[k]? = w.heap[k]?
  frm : ∀ k, k < w.heap.size → ¬ S.own k → w'.heap[k]? = w.heap[k]?
  g : S'.g = S.g
  pv : S'.pv = S.pv
  left : S'.left = S.left
  pc : S'.pc = S.pc
  nf : S'.fl.length = S.fl.length
  fb : ∀ i, S'.fb i = S.fb i
  live : S'.live = S.live
  own : ∀ k, S.own k → S'.own k
  own' : ∀ k, S'.own k → S.own k ∨ w.heap.size ≤ k
  rows : ∀ i s k, S.live i → (S'.row i s).ownBlock = some k → (S.row i s).ownBlock = some k ∨ w.heap.size ≤ k
theorem Mv.refl (w : World) (S : Sh) : Mv w w S S :=
  ⟨rfl, rfl, rfl, Nat.le_refl _, fun _ _ _ => rfl, fun _ _ _ => rfl, rfl, rfl, rfl, rfl, rfl, fun _ => rfl, rfl, fun _ h => h, fun _ h => .inl h, fun _ _ _ _ h => .inl h⟩
theorem Mv.trans {w w' w'' : World} {S S' S'' : Sh} (h : Mv w w' S S') (h' : Mv w' w'' S' S'') : Mv w w'' S S'' where
  os := h'.os.trans h.os
  tape := h'.tape.trans h.tape
  output := h'.output.trans h.output
  size := Nat.le_trans h.size h'.size
  blk := fun k hk hn => by
    have e := h.blk k hk hn
    rw [h'.blk k (Nat.lt_of_lt_of_le hk h.size) (fun hx => hn ?_), e]
    unfold Exm Blk at hx ⊢
    rw [e] at hx
    rcases hx with h1 | h1 | h1 | ⟨h1, i, s, hl, hr⟩
    · exact .inl h1
    · exact .inr (.inl h1)
    · exact .inr (.inr (.inl h1))
    · rw [h.live] at hl
      rcases h.rows i s k hl hr with h2 | h2
      · exact .inr (.inr (.inr ⟨h1, i, s, hl, h2⟩))
      · omega
  frm := fun k hk hn => by
    rw [h'.frm k (Nat.lt_of_lt_of_le hk h.size) (fun hx => ?_), h.frm k hk hn]
    rcases h.own' k hx with h1 | h1
    · exact hn h1
    · omega
  g := h'.g.trans h.g
  pv := h'.pv.trans h.pv
  left := h'.left.trans h.left
  pc := h'.pc.trans h.pc
  nf := h'.nf.trans h.nf
  fb := fun i => (h'.fb i).trans (h.fb i)
  live := h'.live.trans h.live
  own := fun k hk => h'.own k (h.own k hk)
  own' := fun k hk => by
    rcases h'.own' k hk with h1 | h1
    · exact h.own' k h1
    · exact .inr (Nat.le_trans h.size h1)
  rows := fun i s k hl hr => by
    rcases h'.rows i s k (by rw [h.live]; exact hl) hr with h1 | h1
    · exact h.rows i s k hl h1
    · exact .inr (Nat.le_trans h.size h1)
theorem blk_same {w w' : World} {g : Nat} {C : Array Value} {t : TypeId} (h : Blk w g C t) (e : w'.heap[g]? = w.heap[g]?) : Blk w' g C t := by
  unfold Blk; rw [e]; exact h
/-- A block of another type is not turned. -/
theorem not_exm {w : World} {S : Sh} {k : Nat} {C : Array Value} {t : TypeId} (h : Blk w k C t) (h1 : t ≠ 63) (h2 : t ≠ 88) (h3 : t = 5 → ∀ i s, S.live i → (S.row i s).ownBlock ≠ some k) : ¬ Exm w S k := by
  unfold Exm Blk at *
  rw [h]
  rintro (⟨_, e⟩ | ⟨_, e⟩ | ⟨_, _, e⟩ | ⟨⟨_, e⟩, i, s, hl, hr⟩)
  · injection e with e; injection e with _ e; exact h1 e
  · injection e with e; injection e with _ e; exact h2 e
  · injection e with e; cases e
  · injection e with e; injection e with _ e; exact h3 e i s hl hr
theorem Mv.blk' {w w' : World} {S S' : Sh} (m : Mv w w' S S') {k : Nat} {C : Array Value} {t : TypeId} (h : Blk w k C t) (h1 : t ≠ 63) (h2 : t ≠ 88) (h3 : t ≠ 5) : Blk w' k C t :=
  blk_same h (m.blk k h.lt (not_exm h h1 h2 (fun e => absurd e h3)))
/-- A row of the call's own, in a world where its block is as it was. -/
theorem row_same {w w' : World} {base s n : Nat} {v : Value} {xs : List Value} {e : TypeId} (h : w.ownsRow base e s v n xs) (hs : ∀ k, v.ownBlock = some k → w'.heap[k]? = w.heap[k]?) : w'.ownsRow base e s v n xs := by
  refine ⟨h.1, ?_⟩
  rcases h.2 with h1 | ⟨g, cap, cur, rfl, hb, hg, r⟩
  · exact .inl h1
  · exact .inr ⟨g, cap, cur, rfl, hb, by rw [hs g rfl]; exact hg, r⟩
theorem row_blk {w : World} {base s n : Nat} {v : Value} {xs : List Value} {e : TypeId} (h : w.ownsRow base e s v n xs) {k : Nat} (hk : v.ownBlock = some k) : ∃ C, Blk w k C e := by
  rcases h.2 with ⟨rfl, _⟩ | ⟨g, cap, cur, rfl, hb, hg, r⟩
  · cases hk
  · injection hk with hk
    have hk : g = k := hk
    subst hk
    exact ⟨cur, hg⟩
theorem OpAt.mv {w w' : World} {S S' : Sh} {e : Nat} {o : Do} {c0 c1 : Value} (h : OpAt w S e o c0 c1) (m : Mv w w' S S') : OpAt w' S' e o c0 c1 := by
  have hb : ∀ {g : Nat} {C : Array Value} {t : TypeId}, Blk w g C t → (t = 73 ∨ t = 24 ∨ t = 9 ∨ t = 3 ∨ t = 32) → Blk w' g C t := fun {g C t} h ht => by
    rcases ht with rfl | rfl | rfl | rfl | rfl <;> exact m.blk' h (by decide) (by decide) (by decide)
  unfold OpAt at h ⊢
  rw [m.g, m.live, m.fb]
  rcases h with ⟨k1, r0, bf, ba, bb, cap, a, r1, x1, x2, x3, x4, x5, x6, x7, x8, x9, x10, x11, x12⟩ | ⟨k1, r0, bd, bn, bf, r1, x1, x2, x3, y1, y2, y3, x4⟩ | ⟨k1, r0, bd, ba, bb, r1, x1, x2, x3, y1, y2, y3, x4⟩ | ⟨k1, r0, bd, bn, r1, x1, x2, y1, y2, x3⟩
  · refine .inl ⟨k1, r0, bf, ba, bb, cap, a, r1, hb x1 (by simp), hb x2 (by simp), hb x3 (by simp), ?_, x5, m.own _ x6, m.own _ x7, m.own _ x8, fun k hk => m.own _ (x9 k hk), ?_, x11, x12⟩
    · refine row_same x4 fun k hk => ?_
      obtain ⟨C, hC⟩ := row_blk x4 hk
      exact m.blk k hC.lt (not_exm hC (by decide) (by decide) (fun _ i s hl => x10 i s k hl hk))
    · intro i s k hl hk hr
      obtain ⟨C, hC⟩ := row_blk x4 hk
      have := hC.lt
      rcases m.rows i s k hl hr with h1 | h1
      · exact x10 i s k hl hk h1
      · omega
  · exact .inr (.inl ⟨k1, r0, bd, bn, bf, r1, hb x1 (by simp), hb x2 (by simp), hb x3 (by simp), m.own _ y1, m.own _ y2, m.own _ y3, x4⟩)
  · exact .inr (.inr (.inl ⟨k1, r0, bd, ba, bb, r1, hb x1 (by simp), hb x2 (by simp), hb x3 (by simp), m.own _ y1, m.own _ y2, m.own _ y3, x4⟩))
  · exact .inr (.inr (.inr ⟨k1, r0, bd, bn, r1, hb x1 (by simp), hb x2 (by simp), m.own _ y1, m.own _ y2, x3⟩))
theorem Pn.mv {w w' : World} {S S' : Sh} {d d' : Dk} {c e : Nat} (h : Pn w S d c e) (m : Mv w w' S S') (hd : d'.wait = d.wait) : Pn w' S' d' c e := by
  refine ⟨?_, ?_, by rw [hd]; exact h.le, ?_⟩
  · rw [hd, m.pv, m.pc]
    refine row_same h.pend fun k hk => ?_
    obtain ⟨C, hC⟩ := row_blk h.pend hk
    exact m.blk k hC.lt (not_exm hC (by decide) (by decide) (fun e => absurd e (by decide)))
  · rw [hd, m.pc]
    exact fun j hj => (h.ops j hj).mv m
  · rw [m.pv]
    exact fun k hk => m.own _ (h.op k hk)
/-- A disk but for what is pending. -/
structure Hd (w : World) (S : Sh) (d : Dk) (c e : Nat) : Prop where
  ds : Ds w S d
  fs : Fs w S d c e
  sm : ∀ k, S.own k → k < w.heap.size
theorem At.hd {w : World} {S : Sh} {d : Dk} {c e : Nat} (h : At w S d c e) : Hd w S d c e := ⟨h.ds, h.fs, h.sm⟩
/-! ### the two states by one word -/
def Sh.mp (S : Sh) (s : Bool) : Option Nat := if s = true then S.m1 else S.m0
def Sh.setM (S : Sh) (s : Bool) (b : Option Nat) : Sh := if s = true then { S with m1 := b } else { S with m0 := b }
def Dk.nm (d : Dk) (s : Bool) : List Dn := if s = true then d.s else d.l
def Dk.setN (d : Dk) (s : Bool) (L : List Dn) : Dk := if s = true then { d with s := L } else { d with l := L }
def Dk.setB (d : Dk) (s : Bool) (i : Nat) (b : List Int) : Dk := if s = true then { d with su := d.su.set i b } else { d with is := d.is.set i b }
/-- A pending operation done to a state. -/
def actD (s : Bool) (d : Dk) (o : Do) : Dk := if o.k = 1 then d.setB s o.f (laidD (d.of o.f s) o.p o.b) else d.setN s (namesD (d.nm s) o)
theorem Fs.mp {w : World} {S : Sh} {d : Dk} {c e : Nat} (h : Fs w S d c e) (s : Bool) : MapV w (S.mp s) (d.nm s) S.fb c := by
  cases s
  · exact h.mp0
  · exact h.mp1
theorem Fs.nam {w : World} {S : Sh} {d : Dk} {c e : Nat} (h : Fs w S d c e) (s : Bool) : ∀ x ∈ d.nm s, S.live x.f := by
  cases s
  · exact h.nam0
  · exact h.nam1
theorem Fs.nd {w : World} {S : Sh} {d : Dk} {c e : Nat} (h : Fs w S d c e) (s : Bool) : ((d.nm s).map (·.n)).Nodup := by
  cases s
  · exact h.nd0
  · exact h.nd1
theorem Fs.sz {w : World} {S : Sh} {d : Dk} {c e : Nat} (h : Fs w S d c e) (s : Bool) : ∀ x ∈ d.nm s, x.n.size ≤ maxLen := by
  cases s
  · exact h.sz0
  · exact h.sz1
/-- What the map's block is. -/
theorem mapv_blk {w : World} {b : Nat} {L : List Dn} {fb : Nat → Nat} {c : Nat} (h : MapV w (some b) L fb c) : ∃ es cl, w.heap[b]? = some (.map es cl) := by
  obtain ⟨D, n, hn, ho, hi⟩ := h
  obtain ⟨es, cl, hb, _⟩ := ho
  exact ⟨es, cl, hb⟩
theorem blk_not_map {w : World} {b k : Nat} {C : Array Value} {t : TypeId} (h : Blk w k C t) (hm : ∃ es cl, w.heap[b]? = some (.map es cl)) : k ≠ b := fun e => by
  subst e
  obtain ⟨es, cl, hb⟩ := hm
  unfold Blk at h
  rw [hb] at h
  injection h with h
  cases h
/-- A directory turned: the map's entries alone. -/
theorem Fs.names {w w' : World} {S : Sh} {d : Dk} {c c' e : Nat} (h : Fs w S d c e) (s : Bool) {b : Nat} (hb : S.mp s = some b) (hg : w.grownBy w' (some b)) {L : List Dn} (hm : MapV w' (some b) L S.fb c') (hc : c ≤ c') (hl : ∀ x ∈ L, S.live x.f) (hd : (L.map (·.n)).Nodup) (hz : ∀ x ∈ L, x.n.size ≤ maxLen) : Fs w' S (d.setN s L) c' e := by
  have hmb := h.mp s
  rw [hb] at hmb
  have hmb := mapv_blk hmb
  have kf : ∀ i, S.live i → Blk w' (S.fb i) #[S.row i false, S.row i true] 88 := fun i hi => (h.file i hi).turn hg (fun ee => blk_not_map (h.file i hi) hmb (by injection ee))
  have kr : ∀ i s, S.live i → w'.ownsRow 0 5 1 (S.row i s) (d.of i s).length (u8V (d.of i s)) := fun i s hi => by
    refine row_keep (h.row i s hi) hg fun k hk hkk => ?_
    obtain ⟨C, hC⟩ := row_blk (h.row i s hi) hkk
    exact blk_not_map hC hmb (by injection hk with hk; exact hk.symm)
  cases s
  · have hb : S.m0 = some b := hb
    exact ⟨h.n0, h.n1, h.lt, kf, kr, h.bd, h.len, h.inj, h.sep, by rw [hb]; exact hm, (h.mp1.kept hg (fun b' hb' ee => h.mne b hb (by rw [hb', ee]))).up hc, h.mne, hl, h.nam1, hd, h.nd1, hz, h.sz1, h.of, h.or, h.om0, h.om1⟩
  · have hb : S.m1 = some b := hb
    exact ⟨h.n0, h.n1, h.lt, kf, kr, h.bd, h.len, h.inj, h.sep, (h.mp0.kept hg (fun b' hb' ee => h.mne b' hb' (by rw [hb, ee]))).up hc, by rw [hb]; exact hm, h.mne, h.nam0, hl, h.nd0, hd, h.sz0, hz, h.of, h.or, h.om0, h.om1⟩
theorem setN_room (d : Dk) (s : Bool) (L : List Dn) : (d.setN s L).room = d.room ∧ (d.setN s L).off = d.off ∧ (d.setN s L).cut = d.cut ∧ (d.setN s L).wait = d.wait := by
  cases s <;> exact ⟨rfl, rfl, rfl, rfl⟩
theorem Ds.put {w : World} {S S' : Sh} {d d' : Dk} (h : Ds w S d) {w' : World} (hb : Blk w' S.g (dskC S' d') 63) (hg : S'.g = S.g) (hl : S'.left = S.left) (h1 : d'.room = d.room) (h2 : d'.cut = d.cut) (ho : ∀ k, S.own k → S'.own k) : Ds w' S' d' :=
  ⟨by rw [hg]; exact hb, by rw [h2, hl]; exact h.cut, by rw [hl]; exact h.lb, by rw [h1]; exact h.rb, by rw [hg]; exact ho _ h.og⟩
/-- The step of a directory that is there. -/
theorem Hd.names {w w' : World} {S : Sh} {d : Dk} {c c' e : Nat} (h : Hd w S d c e) (s : Bool) {b : Nat} (hb : S.mp s = some b) (hg : w.grownBy w' (some b)) {L : List Dn} (hm : MapV w' (some b) L S.fb c') (hc : c ≤ c') (hl : ∀ x ∈ L, S.live x.f) (hd : (L.map (·.n)).Nodup) (hz : ∀ x ∈ L, x.n.size ≤ maxLen) : Hd w' S (d.setN s L) c' e ∧ Mv w w' S S := by
  have hmb := h.fs.mp s
  rw [hb] at hmb
  have hmb := mapv_blk hmb
  have hown : S.own b := by
    cases s
    · exact h.fs.om0 b hb
    · exact h.fs.om1 b hb
  refine ⟨⟨?_, h.fs.names s hb hg hm hc hl hd hz, fun k hk => Nat.lt_of_lt_of_le (h.sm k hk) hg.size⟩, ⟨hg.os, hg.tape, hg.output, hg.size, fun k hk hn => hg.block k hk (fun ee => hn ?_), fun k hk hn => hg.block k hk (fun ee => hn ?_), rfl, rfl, rfl, rfl, rfl, fun _ => rfl, rfl, fun _ h => h, fun _ h => .inl h, fun _ _ _ _ h => .inl h⟩⟩
  · have hk := h.ds.disk.turn hg (fun ee => blk_not_map h.ds.disk hmb (by injection ee))
    have : dskC S (d.setN s L) = dskC S d := by cases s <;> rfl
    exact h.ds.put (by rw [this]; exact hk) rfl rfl (setN_room d s L).1 (setN_room d s L).2.2.1 (fun _ h => h)
  · injection ee with ee
    subst ee
    exact .inr (.inr (.inl hmb))
  · injection ee with ee
    subst ee
    exact hown
end Go.Proofs.Ythogdieplfpopaa
namespace Go.Proofs.Ythogdieplfpopaa
open Go.RowKit Go.WideMaps Go.Maps
set_option linter.unusedVariables false
set_option linter.unusedSimpArgs false

/-- Where a block turns that is no file, no row, no map. -/
theorem Fs.turn {w w' : World} {S : Sh} {d : Dk} {c e : Nat} {row : Option Nat} (h : Fs w S d c e) (hg : w.grownBy w' row) (hr : ∀ k, row = some k → ∃ C t, Blk w k C t ∧ t ≠ 88 ∧ t ≠ 5) : Fs w' S d c e := by
  have kf : ∀ i, S.live i → Blk w' (S.fb i) #[S.row i false, S.row i true] 88 := fun i hi => (h.file i hi).turn hg (fun ee => by
    obtain ⟨C, t, hB, ht, _⟩ := hr _ ee.symm
    exact blk_ne (h.file i hi) hB (fun e => ht e.symm) rfl)
  have kr : ∀ i s, S.live i → w'.ownsRow 0 5 1 (S.row i s) (d.of i s).length (u8V (d.of i s)) := fun i s hi => by
    refine row_keep (h.row i s hi) hg fun k hk hkk => ?_
    obtain ⟨C, t, hB, _, ht⟩ := hr _ hk
    exact row_blk_ne (h.row i s hi) hB (fun e => ht e.symm) hkk
  have km : ∀ {m : Option Nat} {L : List Dn}, MapV w m L S.fb c → MapV w' m L S.fb c := fun {m L} hm => hm.kept hg (fun b hb ee => by
    subst hb
    obtain ⟨C, t, hB, _⟩ := hr _ ee.symm
    exact blk_not_map hB (mapv_blk hm) rfl)
  exact ⟨h.n0, h.n1, h.lt, kf, kr, h.bd, h.len, h.inj, h.sep, km h.mp0, km h.mp1, h.mne, h.nam0, h.nam1, h.nd0, h.nd1, h.sz0, h.sz1, h.of, h.or, h.om0, h.om1⟩
/-- A directory's first map. -/
theorem Hd.newMap {w : World} {S : Sh} {d : Dk} {c e : Nat} (h : Hd w S d c e) (s : Bool) (hn : S.mp s = none) :
    Hd ((w.alloc (.map #[] 0)).setCell ⟨S.g, if s = true then 2 else 1, none⟩ (.map (some w.heap.size))) { S.setM s (some w.heap.size) with own := fun k => S.own k ∨ k = w.heap.size } d c e ∧
    Mv w ((w.alloc (.map #[] 0)).setCell ⟨S.g, if s = true then 2 else 1, none⟩ (.map (some w.heap.size))) S { S.setM s (some w.heap.size) with own := fun k => S.own k ∨ k = w.heap.size } := by
  have hgl := h.ds.disk.lt
  have hg : w.grownBy ((w.alloc (.map #[] 0)).setCell ⟨S.g, if s = true then 2 else 1, none⟩ (.map (some w.heap.size))) (some S.g) := by
    refine ⟨rfl, rfl, rfl, by simp [World.setCell], fun k hk hne => ?_⟩
    rw [Below.heap_setCell _ _ _ _ (fun ee => hne (by rw [ee])), Below.heap_alloc _ _ _ hk]
  have hsz : ((w.alloc (.map #[] 0)).setCell ⟨S.g, if s = true then 2 else 1, none⟩ (.map (some w.heap.size))).heap.size = w.heap.size + 1 := by simp [World.setCell]
  have hf := h.fs.turn hg (fun k hk => by injection hk with hk; subst hk; exact ⟨_, _, h.ds.disk, by decide, by decide⟩)
  have hnew : MapV ((w.alloc (.map #[] 0)).setCell ⟨S.g, if s = true then 2 else 1, none⟩ (.map (some w.heap.size))) (some w.heap.size) [] S.fb c := by
    refine ⟨.map [], 0, Nat.zero_le _, (World.ownsMap_made w Try.prog 9 ptrR).setCell (a := ⟨S.g, if s = true then 2 else 1, none⟩) (by show w.heap.size ≠ S.g; omega) _, mapIs_nil _⟩
  have hlen : d.nm s = [] := by
    have := h.fs.mp s
    rw [hn] at this
    exact this
  have hlt : ∀ {m : Option Nat} {L : List Dn} {fb : Nat → Nat} {c : Nat}, MapV w m L fb c → m ≠ some w.heap.size := fun {m L fb c} hm ee => by
    subst ee
    obtain ⟨es, cl, hb⟩ := mapv_blk hm
    have := (Array.getElem?_eq_some_iff.1 hb).1
    omega
  have hblk : Blk ((w.alloc (.map #[] 0)).setCell ⟨S.g, if s = true then 2 else 1, none⟩ (.map (some w.heap.size))) S.g (dskC (S.setM s (some w.heap.size)) d) 63 := by
    have := (h.ds.disk.alloc (.map #[] 0)).put (if s = true then 2 else 1) (.map (some w.heap.size))
    cases s <;> simpa [dskC, Sh.setM] using this
  refine ⟨⟨?_, ?_, ?_⟩, ?_⟩
  · cases s <;> exact ⟨hblk, h.ds.cut, h.ds.lb, h.ds.rb, .inl h.ds.og⟩
  · cases s
    · have hn : S.m0 = none := hn
      have hlen : d.l = [] := hlen
      exact ⟨hf.n0, hf.n1, hf.lt, hf.file, hf.row, hf.bd, hf.len, hf.inj, hf.sep, by rw [hlen]; exact hnew, hf.mp1, fun b hb => by injection hb with hb; subst hb; exact hlt h.fs.mp1, hf.nam0, hf.nam1, hf.nd0, hf.nd1, hf.sz0, hf.sz1, fun i hi => .inl (hf.of i hi), fun i s k hi hk => .inl (hf.or i s k hi hk), fun b hb => by injection hb with hb; exact .inr hb.symm, fun b hb => .inl (hf.om1 b hb)⟩
    · have hn : S.m1 = none := hn
      have hlen : d.s = [] := hlen
      exact ⟨hf.n0, hf.n1, hf.lt, hf.file, hf.row, hf.bd, hf.len, hf.inj, hf.sep, hf.mp0, by rw [hlen]; exact hnew, fun b hb ee => by injection ee with ee; subst ee; exact hlt h.fs.mp0 hb, hf.nam0, hf.nam1, hf.nd0, hf.nd1, hf.sz0, hf.sz1, fun i hi => .inl (hf.of i hi), fun i s k hi hk => .inl (hf.or i s k hi hk), fun b hb => .inl (hf.om0 b hb), fun b hb => by injection hb with hb; exact .inr hb.symm⟩
  · intro k hk
    rw [hsz]
    rcases hk with hk | hk
    · have := h.sm k hk; omega
    · omega
  · cases s <;> exact ⟨hg.os, hg.tape, hg.output, hg.size, fun k hk hn => hg.block k hk (fun ee => hn (by injection ee with ee; subst ee; exact .inl ⟨_, h.ds.disk⟩)), fun k hk hn => hg.block k hk (fun ee => hn (by injection ee with ee; subst ee; exact h.ds.og)), rfl, rfl, rfl, rfl, rfl, fun _ => rfl, rfl, fun _ h => .inl h, fun k hk => by rcases hk with hk | hk; exact .inl hk; exact .inr (by omega), fun _ _ _ _ h => .inl h⟩
/-! ### the operations on a directory, for the walk -/
theorem wpList_look {P : Program} (w : World) {ops : Array Oper} {rest : List Oper} {o : Oper} {a : Act} {Q : Exit → Act → World → Prop}
    (hg : o.guard = none) (m x : Operand) (t : TypeId) (hop : o.op = Op.lookup t m x false) (mv key v : Value) (hm : a.eval m = mv) (hx : a.eval x = key)
    (hrun : (Instr.lookup t mv key false).run P w = .ok v w) (hK : wpList P ops Q rest (a.put o.dst v) w) : wpList P ops Q (o :: rest) a w := by
  refine wpList_plain hg fun K' hK' => ?_
  unfold Oper.wp
  simp [execOp, hop, hm, hx, hrun, Result.andThen]
  exact hK' _ _ hK
theorem MapV.drop {w : World} {m : Option Nat} {L : List Dn} {fb : Nat → Nat} {c : Nat} (h : MapV w m L fb c) {x : ByteArray} (hx : x.size ≤ maxLen) (ty : TypeId) :
    ∃ w', (Builtin.delete_ #[59, 9] ty #[.map m, .string x]).run Try.prog w = .ok (.tuple #[]) w' ∧ MapV w' m (withoutD L x) fb c ∧ w.grownBy w' m := by
  cases m with
  | none =>
    have : L = [] := h
    subst this
    exact ⟨w, Maps.drop_nil law_str Try.underlying59 (key_str hx) ty, rfl, ⟨rfl, rfl, rfl, Nat.le_refl _, fun _ _ _ => rfl⟩⟩
  | some b =>
    obtain ⟨D, n, hn, ho, hi⟩ := h
    obtain ⟨w', hrun, ho', hg⟩ := ho.drop law_str Try.underlying59 (key_str hx) ty
    exact ⟨w', hrun, ⟨_, n, hn, ho', hi.del x⟩, hg.grown⟩
theorem MapV.store {w : World} {b : Nat} {L : List Dn} {fb : Nat → Nat} {c : Nat} (h : MapV w (some b) L fb c) {x : ByteArray} (hx : x.size ≤ maxLen) (hc : c < maxLen) (f : Nat) :
    ∃ w', (Instr.mapUpdate 59 (.map (some b)) (.string x) (ptrV (fb f))).run Try.prog w = .ok () w' ∧ MapV w' (some b) (withD L x f) fb (c + 1) ∧ w.grownBy w' (some b) := by
  obtain ⟨D, n, hn, ho, hi⟩ := h
  obtain ⟨w', hrun, ho', hg⟩ := ho.update law_str Try.underlying59 (by omega) (key_str hx) (show ptrR (ptrV (fb f)) = some (.lit (.int .i64 (fb f)), []) from rfl)
  exact ⟨w', hrun, ⟨_, n + 1, by omega, ho', hi.put ho.isMap x f⟩, hg⟩
theorem wpList_update_run {P : Program} (w : World) {ops : Array Oper} {rest : List Oper} {o : Oper} {a : Act} {Q : Exit → Act → World → Prop}
    (hg : o.guard = none) (m x v : Operand) (t : TypeId) (hop : o.op = Op.mapUpdate t m x v) (mv key val : Value) (w' : World) (hm : a.eval m = mv) (hx : a.eval x = key) (hv : a.eval v = val)
    (hrun : (Instr.mapUpdate t mv key val).run P w = .ok () w') (hK : wpList P ops Q rest (a.put o.dst undef) w') : wpList P ops Q (o :: rest) a w := by
  refine wpList_plain hg fun K' hK' => ?_
  unfold Oper.wp
  simp [execOp, hop, hm, hx, hv, hrun, Result.andThen]
  exact hK' _ _ hK
theorem wpList_delete_run {P : Program} (w : World) {ops : Array Oper} {rest : List Oper} {o : Oper} {a : Act} {Q : Exit → Act → World → Prop}
    (hg : o.guard = none) (m x : Operand) (t k : TypeId) (hop : o.op = Op.call { callee := Callee.builtin Builtin.delete, args := #[m, x], argTypes := #[t, k] }) (mv key : Value) (w' : World) (hm : a.eval m = mv) (hx : a.eval x = key)
    (hrun : (Builtin.delete_ #[t, k] o.type #[mv, key]).run P w = .ok (.tuple #[]) w') (hK : wpList P ops Q rest (a.put o.dst (.tuple #[])) w') : wpList P ops Q (o :: rest) a w := by
  refine wpList_plain hg fun K' hK' => ?_
  unfold Oper.wp
  simp [execOp, hop, resolve, invoke, builtin, hm, hx, hrun, Result.andThen]
  exact hK' _ _ hK
end Go.Proofs.Ythogdieplfpopaa
