/-
  What is proved here: a disk speaks of its own blocks alone.
  Conditions: none.
-/
import Derived.Test.YthogdieplfpopaaDskAdd
namespace Go.Proofs.Ythogdieplfpopaa
open Go.RowKit Go.WideMaps Go.Maps
set_option linter.unusedVariables false
set_option linter.unusedSimpArgs false

def Sh.take (S : Sh) (P : Nat → Prop) : Sh := { S with own := fun k => S.own k ∨ P k }
theorem MapV.same {w w' : World} {m : Option Nat} {L : List Dn} {fb : Nat → Nat} {c : Nat} (h : MapV w m L fb c) (hs : ∀ b, m = some b → w'.heap[b]? = w.heap[b]?) : MapV w' m L fb c := by
  cases m with
  | none => exact h
  | some b =>
    obtain ⟨D, n, hn, ⟨es, cl, hb, r⟩, hi⟩ := h
    exact ⟨D, n, hn, ⟨es, cl, by rw [hs b rfl]; exact hb, r⟩, hi⟩
theorem OpAt.same {w w' : World} {S S' : Sh} {e : Nat} {o : Do} {c0 c1 : Value} (h : OpAt w S e o c0 c1) (hs : ∀ k, S.own k → w'.heap[k]? = w.heap[k]?)
    (h1 : S'.g = S.g) (h2 : ∀ i, S.live i → S'.fb i = S.fb i) (h3 : ∀ i, S.live i → S'.live i) (h4 : ∀ i s k, S'.live i → (S'.row i s).ownBlock = some k → S.live i ∧ (S.row i s).ownBlock = some k) (h5 : ∀ k, S.own k → S'.own k) : OpAt w' S' e o c0 c1 := by
  unfold OpAt at h ⊢
  rw [h1]
  rcases h with ⟨k1, r0, bf, ba, bb, cap, a, r1, x1, x2, x3, x4, x5, x6, x7, x8, x9, x10, x11, x12⟩ | ⟨k1, r0, bd, bn, bf, r1, x1, x2, x3, y1, y2, y3, x4, x5⟩ | ⟨k1, r0, bd, ba, bb, r1, x1, x2, x3, y1, y2, y3, x4⟩ | ⟨k1, r0, bd, bn, r1, x1, x2, y1, y2, x3⟩
  · rw [h2 _ x12]
    refine .inl ⟨k1, r0, bf, ba, bb, cap, a, r1, blk_same x1 (hs _ x6), blk_same x2 (hs _ x7), blk_same x3 (hs _ x8), row_same x4 (fun k hk => hs k (x9 k hk)), x5, h5 _ x6, h5 _ x7, h5 _ x8, fun k hk => h5 _ (x9 k hk), ?_, x11, h3 _ x12⟩
    intro i s k hl hkk hr
    obtain ⟨hl2, hr2⟩ := h4 i s k hl hr
    exact x10 i s k hl2 hkk hr2
  · rw [h2 _ x4]
    exact .inr (.inl ⟨k1, r0, bd, bn, bf, r1, blk_same x1 (hs _ y1), blk_same x2 (hs _ y2), blk_same x3 (hs _ y3), h5 _ y1, h5 _ y2, h5 _ y3, h3 _ x4, x5⟩)
  · exact .inr (.inr (.inl ⟨k1, r0, bd, ba, bb, r1, blk_same x1 (hs _ y1), blk_same x2 (hs _ y2), blk_same x3 (hs _ y3), h5 _ y1, h5 _ y2, h5 _ y3, x4⟩))
  · exact .inr (.inr (.inr ⟨k1, r0, bd, bn, r1, blk_same x1 (hs _ y1), blk_same x2 (hs _ y2), h5 _ y1, h5 _ y2, x3⟩))
theorem Fs.same {w w' : World} {S : Sh} {d : Dk} {c e : Nat} (h : Fs w S d c e) (hs : ∀ k, S.own k → w'.heap[k]? = w.heap[k]?) : Fs w' S d c e :=
  ⟨h.n0, h.n1, h.lt, fun i hi => blk_same (h.file i hi) (hs _ (h.of i hi)), fun i s hi => row_same (h.row i s hi) (fun k hk => hs k (h.or i s k hi hk)), h.bd, h.len, h.inj, h.sep, h.mp0.same (fun b hb => hs b (h.om0 b hb)), h.mp1.same (fun b hb => hs b (h.om1 b hb)), h.mne, h.nam0, h.nam1, h.nd0, h.nd1, h.sz0, h.sz1, h.of, h.or, h.om0, h.om1⟩
theorem Fs.take {w : World} {S : Sh} {d : Dk} {c e : Nat} (h : Fs w S d c e) (P : Nat → Prop) : Fs w (S.take P) d c e :=
  ⟨h.n0, h.n1, h.lt, h.file, h.row, h.bd, h.len, h.inj, h.sep, h.mp0, h.mp1, h.mne, h.nam0, h.nam1, h.nd0, h.nd1, h.sz0, h.sz1, fun i hi => .inl (h.of i hi), fun i s k hi hk => .inl (h.or i s k hi hk), fun b hb => .inl (h.om0 b hb), fun b hb => .inl (h.om1 b hb)⟩
theorem Ds.same {w w' : World} {S : Sh} {d : Dk} (h : Ds w S d) (hs : ∀ k, S.own k → w'.heap[k]? = w.heap[k]?) : Ds w' S d := ⟨blk_same h.disk (hs _ h.og), h.cut, h.lb, h.rb, h.og⟩
theorem Pn.same {w w' : World} {S : Sh} {d : Dk} {c e : Nat} (h : Pn w S d c e) (hs : ∀ k, S.own k → w'.heap[k]? = w.heap[k]?) : Pn w' S d c e :=
  ⟨row_same h.pend (fun k hk => hs k (h.op k hk)), fun j hj => (h.ops j hj).same hs rfl (fun _ _ => rfl) (fun _ h => h) (fun _ _ _ hl hr => ⟨hl, hr⟩) (fun _ h => h), h.le, h.op⟩
theorem Pn.take {w : World} {S : Sh} {d : Dk} {c e : Nat} (h : Pn w S d c e) (P : Nat → Prop) : Pn w (S.take P) d c e :=
  ⟨h.pend, fun j hj => (h.ops j hj).same (fun _ _ => rfl) rfl (fun _ _ => rfl) (fun _ h => h) (fun _ _ _ hl hr => ⟨hl, hr⟩) (fun _ h => .inl h), h.le, fun k hk => .inl (h.op k hk)⟩
/-- Elsewhere something turns, or is made. -/
theorem At.same {w w' : World} {S : Sh} {d : Dk} {c e : Nat} (h : At w S d c e) (hs : ∀ k, S.own k → w'.heap[k]? = w.heap[k]?) (hz : w.heap.size ≤ w'.heap.size) : At w' S d c e :=
  ⟨h.ds.same hs, h.fs.same hs, h.pn.same hs, fun k hk => Nat.lt_of_lt_of_le (h.sm k hk) hz⟩
theorem At.grown {w w' : World} {S : Sh} {d : Dk} {c e : Nat} {row : Option Nat} (h : At w S d c e) (hg : w.grownBy w' row) (hr : ∀ k, row = some k → ¬ S.own k) : At w' S d c e :=
  h.same (fun k hk => hg.block k (h.sm k hk) (fun ee => hr k ee.symm hk)) hg.size
theorem At.below {w w' : World} {S : Sh} {d : Dk} {c e : Nat} (h : At w S d c e) (hb : Below w.heap.size w w') : At w' S d c e :=
  h.same (fun k hk => hb.block k (h.sm k hk)) hb.size
theorem At.drew {w : World} {S : Sh} {d : Dk} {c e : Nat} (h : At w S d c e) : At w.drew S d c e := h.same (fun _ _ => rfl) (Nat.le_refl _)
theorem At.alloc {w : World} {S : Sh} {d : Dk} {c e : Nat} (h : At w S d c e) (o : Obj) : At (w.alloc o) S d c e := h.grown (World.grownBy_alloc w o none) (fun _ h => by cases h)
/-- The disk takes blocks for its own. -/
theorem At.take {w : World} {S : Sh} {d : Dk} {c e : Nat} (h : At w S d c e) (P : Nat → Prop) (hP : ∀ k, P k → k < w.heap.size) : At w (S.take P) d c e :=
  ⟨⟨h.ds.disk, h.ds.cut, h.ds.lb, h.ds.rb, .inl h.ds.og⟩, h.fs.take P, h.pn.take P, fun k hk => by rcases hk with hk | hk; exact h.sm k hk; exact hP k hk⟩
theorem Fr.grown {w w' : World} {S : Sh} {row : Option Nat} (hg : w.grownBy w' row) (hr : ∀ k, row = some k → w.heap.size ≤ k) (P : Nat → Prop) (hP : ∀ k, P k → w.heap.size ≤ k) : Fr w w' S (S.take P) :=
  ⟨hg.os, hg.tape, hg.output, hg.size, fun k hk hn => hg.block k hk (fun ee => by have := hr k ee.symm; omega), rfl, fun k hk => by rcases hk with hk | hk; exact .inl hk; exact .inr (hP k hk)⟩
theorem At.hp {w : World} {S : Sh} {d : Dk} {c e : Nat} (h : At w S d c e) : Pn w S d c e := h.pn
/-- A new file. -/
def Sh.file (S : Sh) (b : Nat) : Sh := { S with fl := S.fl ++ [⟨b, .slice none 0 0, .slice none 0 0⟩], live := fun i => S.live i ∨ i = S.fl.length, own := fun k => S.own k ∨ k = b }
theorem file_fb (S : Sh) (b i : Nat) : (S.file b).fb i = if i = S.fl.length then b else S.fb i := by
  unfold Sh.fb Sh.file
  simp only [List.getD_eq_getElem?_getD]
  by_cases h : i < S.fl.length
  · rw [List.getElem?_append_left h, if_neg (by omega)]
  · rw [List.getElem?_append_right (by omega)]
    by_cases h2 : i = S.fl.length
    · subst h2; simp
    · rw [if_neg h2, List.getElem?_eq_none (l := S.fl) (by omega), List.getElem?_eq_none (by simp; omega)]
theorem file_row (S : Sh) (b i : Nat) (s : Bool) : (S.file b).row i s = if i = S.fl.length then .slice none 0 0 else S.row i s := by
  unfold Sh.row Sh.file
  simp only [List.getD_eq_getElem?_getD]
  by_cases h : i < S.fl.length
  · rw [List.getElem?_append_left h, if_neg (show ¬ i = S.fl.length by omega)]
  · rw [List.getElem?_append_right (by omega)]
    by_cases h2 : i = S.fl.length
    · subst h2; cases s <;> simp
    · rw [if_neg h2, List.getElem?_eq_none (l := S.fl) (by omega), List.getElem?_eq_none (by simp; omega)]
theorem snoc_of (d : Dk) (i : Nat) (s : Bool) : ({ d with is := d.is ++ [[]], su := d.su ++ [[]] } : Dk).of i s = d.of i s := by
  unfold Dk.of
  have key : ∀ (L : List (List Int)), (L ++ [[]]).getD i [] = L.getD i [] := fun L => by
    simp only [List.getD_eq_getElem?_getD]
    by_cases h : i < L.length
    · rw [List.getElem?_append_left h]
    · rw [List.getElem?_append_right (by omega), List.getElem?_eq_none (l := L) (by omega)]
      by_cases h2 : i - L.length = 0
      · rw [h2]; rfl
      · rw [List.getElem?_eq_none (by simp; omega)]
  cases s
  · exact key d.is
  · exact key d.su
theorem At.file {w : World} {S : Sh} {d : Dk} {c e b : Nat} (h : At w S d c e) (hb : Blk w b #[.slice none 0 0, .slice none 0 0] 88) (hn : ¬ S.own b) : At w (S.file b) { d with is := d.is ++ [[]], su := d.su ++ [[]] } c e := by
  have f := h.fs
  have hfb := file_fb S b
  have hrow := file_row S b
  have hof := snoc_of d
  have nl : ∀ i, S.live i → i ≠ S.fl.length := fun i hi => by have := f.lt i hi; omega
  have of_new : ∀ s, d.of S.fl.length s = [] := fun s => by
    unfold Dk.of
    have key : ∀ (L : List (List Int)), L.length = S.fl.length → L.getD S.fl.length [] = [] := fun L hL => by
      rw [List.getD_eq_getElem?_getD, List.getElem?_eq_none (by omega)]; rfl
    cases s
    · exact key d.is f.n0
    · exact key d.su f.n1
  have mp : ∀ {m : Option Nat} {L : List Dn}, MapV w m L S.fb c → (∀ x ∈ L, S.live x.f) → MapV w m L (S.file b).fb c := fun {m L} hm hl => hm.more (fun x g hx => by
    obtain ⟨y, hy, _, hy2⟩ := find_mem hx
    have := nl y.f (hl y hy)
    rw [hfb, if_neg (by omega)])
  refine ⟨⟨h.ds.disk, h.ds.cut, h.ds.lb, h.ds.rb, .inl h.ds.og⟩, ?_, ?_, ?_⟩
  · refine ⟨by simp [Sh.file, f.n0], by simp [Sh.file, f.n1], ?_, ?_, ?_, ?_, ?_, ?_, ?_, mp f.mp0 f.nam0, mp f.mp1 f.nam1, f.mne, fun x hx => .inl (f.nam0 x hx), fun x hx => .inl (f.nam1 x hx), f.nd0, f.nd1, f.sz0, f.sz1, ?_, ?_, fun b hb => .inl (f.om0 b hb), fun b hb => .inl (f.om1 b hb)⟩
    · intro i hi
      rcases hi with hi | hi
      · have := f.lt i hi; simp [Sh.file]; omega
      · simp [Sh.file]; omega
    · intro i hi
      rw [hfb, hrow, hrow]
      rcases hi with hi | hi
      · rw [if_neg (nl i hi), if_neg (nl i hi), if_neg (nl i hi)]; exact f.file i hi
      · rw [if_pos hi, if_pos hi, if_pos hi]; exact hb
    · intro i s hi
      rw [hrow, hof]
      rcases hi with hi | hi
      · rw [if_neg (nl i hi)]; exact f.row i s hi
      · rw [if_pos hi, hi, of_new]; exact World.ownsRow_nil w 0 _ 1
    · intro i s hi
      rw [hof]
      rcases hi with hi | hi
      · exact f.bd i s hi
      · rw [hi, of_new]; exact fun n hn => by cases hn
    · intro i s hi
      rw [hof]
      rcases hi with hi | hi
      · exact f.len i s hi
      · rw [hi, of_new]; exact Nat.zero_le _
    · intro i j hi hj
      rw [hfb, hfb]
      rcases hi with hi | hi
      · rcases hj with hj | hj
        · rw [if_neg (nl i hi), if_neg (nl j hj)]; exact f.inj i j hi hj
        · rw [if_neg (nl i hi), if_pos hj]
          intro ee
          exact absurd (ee ▸ f.of i hi) hn
      · rcases hj with hj | hj
        · rw [if_pos hi, if_neg (nl j hj)]
          intro ee
          exact absurd (ee.symm ▸ f.of j hj) hn
        · exact fun _ => hi.trans hj.symm
    · intro i s j t k hi hj
      rw [hrow, hrow]
      rcases hi with hi | hi
      · rcases hj with hj | hj
        · rw [if_neg (nl i hi), if_neg (nl j hj)]; exact f.sep i s j t k hi hj
        · rw [if_pos hj]; intro _ h2; cases h2
      · rw [if_pos hi]; intro h1; cases h1
    · intro i hi
      rw [hfb]
      rcases hi with hi | hi
      · rw [if_neg (nl i hi)]; exact .inl (f.of i hi)
      · rw [if_pos hi]; exact .inr rfl
    · intro i s k hi
      rw [hrow]
      rcases hi with hi | hi
      · rw [if_neg (nl i hi)]; exact fun hk => .inl (f.or i s k hi hk)
      · rw [if_pos hi]; intro h1; cases h1
  · refine ⟨h.pn.pend, fun j hj => (h.pn.ops j hj).same (fun _ _ => rfl) rfl (fun i hi => by rw [hfb, if_neg (nl i hi)]) (fun i hi => .inl hi) (fun i s k hl hr => ?_) (fun _ h => .inl h), h.pn.le, fun k hk => .inl (h.pn.op k hk)⟩
    rw [hrow] at hr
    rcases hl with hl | hl
    · rw [if_neg (nl i hl)] at hr; exact ⟨hl, hr⟩
    · rw [if_pos hl] at hr; cases hr
  · intro k hk
    rcases hk with hk | hk
    · exact h.sm k hk
    · rw [hk]; exact hb.lt
end Go.Proofs.Ythogdieplfpopaa
