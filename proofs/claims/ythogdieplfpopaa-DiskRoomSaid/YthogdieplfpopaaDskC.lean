/-
  What is proved here: a file's row laid anew: what it makes of the disk. · any pending operation done to a state. · what is pending laid anew; add of package disk.
  Conditions: as they say.
-/
import Derived.Test.YthogdieplfpopaaDskRem
import Derived.Test.YthogdieplfpopaaDskWrt
import Derived.Test.YthogdieplfpopaaAppG
namespace Go.Proofs.Ythogdieplfpopaa
open Go.RowKit Go.WideMaps Go.Maps
set_option linter.unusedVariables false
set_option linter.unusedSimpArgs false

def Sh.setRow (S : Sh) (f : Nat) (s : Bool) (v : Value) : Sh := { S with fl := S.fl.set f (if s = true then { S.fl.getD f fl0 with v1 := v } else { S.fl.getD f fl0 with v0 := v }), own := fun k => S.own k ∨ v.ownBlock = some k }
theorem setRow_fb (S : Sh) (f : Nat) (s : Bool) (v : Value) (i : Nat) : (S.setRow f s v).fb i = S.fb i := by
  unfold Sh.fb Sh.setRow
  simp only [List.getD_eq_getElem?_getD, List.getElem?_set]
  split
  · rename_i e
    subst e
    split
    · cases s <;> simp
    · rename_i h
      rw [List.getElem?_eq_none (by omega)]
  · rfl
theorem setRow_row (S : Sh) {f : Nat} (hf : f < S.fl.length) (s : Bool) (v : Value) (i : Nat) (t : Bool) : (S.setRow f s v).row i t = if i = f ∧ t = s then v else S.row i t := by
  unfold Sh.row Sh.setRow
  simp only [List.getD_eq_getElem?_getD, List.getElem?_set]
  by_cases e : f = i
  · subst e
    rw [if_pos rfl, if_pos hf]
    cases s <;> cases t <;> simp
  · rw [if_neg e, if_neg (show ¬ (i = f ∧ t = s) from fun h => e h.1.symm)]
theorem setB_of (d : Dk) {f : Nat} (h0 : f < d.is.length) (h1 : f < d.su.length) (s : Bool) (b : List Int) (i : Nat) (t : Bool) : (d.setB s f b).of i t = if i = f ∧ t = s then b else d.of i t := by
  unfold Dk.of Dk.setB
  by_cases e : f = i
  · subst e
    cases s <;> cases t <;> simp [List.getD_eq_getElem?_getD, List.getElem?_set, h0, h1]
  · rw [if_neg (show ¬ (i = f ∧ t = s) from fun h => e h.1.symm)]
    cases s <;> cases t <;> simp [List.getD_eq_getElem?_getD, List.getElem?_set, e]
theorem setB_room (d : Dk) (s : Bool) (f : Nat) (b : List Int) : (d.setB s f b).room = d.room ∧ (d.setB s f b).off = d.off ∧ (d.setB s f b).cut = d.cut ∧ (d.setB s f b).wait = d.wait ∧ (d.setB s f b).l = d.l ∧ (d.setB s f b).s = d.s := by
  cases s <;> exact ⟨rfl, rfl, rfl, rfl, rfl, rfl⟩
set_option maxHeartbeats 1600000 in
theorem Hd.setRow {w w1 : World} {S : Sh} {d : Dk} {c e : Nat} (h : Hd w S d c e) (s : Bool) {f : Nat} (hf : S.live f) {v' : Value} {zs : List Int} (hg : w.grownBy w1 (S.row f s).ownBlock) (ho : w1.ownsRow 0 5 1 v' zs.length (u8V zs))
    (hv : v'.ownBlock = (S.row f s).ownBlock ∨ ∀ k, v'.ownBlock = some k → w.heap.size ≤ k) (hb : ∀ n ∈ zs, 0 ≤ n ∧ n ≤ 255) (hl : zs.length ≤ e) :
    Hd (w1.setCell ⟨S.fb f, if s = true then 1 else 0, none⟩ v') (S.setRow f s v') (d.setB s f zs) c e ∧ Mv w (w1.setCell ⟨S.fb f, if s = true then 1 else 0, none⟩ v') S (S.setRow f s v') := by
  have hfl := h.fs.lt f hf
  have hrow : ∀ i t, (S.setRow f s v').row i t = if i = f ∧ t = s then v' else S.row i t := setRow_row S hfl s v'
  have hfb := setRow_fb S f s v'
  have hof := setB_of d (by rw [h.fs.n0]; exact hfl) (by rw [h.fs.n1]; exact hfl) s zs
  obtain ⟨r1, r2, r3, r4, r5, r6⟩ := setB_room d s f zs
  have hlive : (S.setRow f s v').live = S.live := rfl
  have hg2 := grown_set w1 (S.fb f) (if s = true then 1 else 0) v'
  -- the blocks that turn
  have ne_file : ∀ i k, S.live i → (S.row f s).ownBlock = some k → S.fb i ≠ k := fun i k hi hk ee => by
    subst ee
    exact row_blk_ne (h.fs.row f s hf) (h.fs.file i hi) (by decide) hk
  have file1 : ∀ i, S.live i → Blk w1 (S.fb i) #[S.row i false, S.row i true] 88 := fun i hi => (h.fs.file i hi).turn hg (fun ee => ne_file i _ hi ee.symm rfl)
  have keep2 : ∀ k, k < w.heap.size → k ≠ S.fb f → (S.row f s).ownBlock ≠ some k → (w1.setCell ⟨S.fb f, if s = true then 1 else 0, none⟩ v').heap[k]? = w.heap[k]? := fun k hk h1 h2 => by
    rw [hg2.block k (Nat.lt_of_lt_of_le hk hg.size) (fun ee => h1 (by injection ee)), hg.block k hk (fun ee => h2 ee.symm)]
  have blk2 : ∀ {k C t}, Blk w k C t → t ≠ 88 → t ≠ 5 → Blk (w1.setCell ⟨S.fb f, if s = true then 1 else 0, none⟩ v') k C t := fun {k C t} hB ht hu =>
    blk_same hB (keep2 k hB.lt (blk_ne hB (h.fs.file f hf) ht) (fun hk => row_blk_ne (h.fs.row f s hf) hB (fun e => hu e.symm) hk))
  have map2 : ∀ {m : Option Nat} {L : List Dn}, MapV w m L S.fb c → MapV (w1.setCell ⟨S.fb f, if s = true then 1 else 0, none⟩ v') m L (S.setRow f s v').fb c := fun {m L} hm => by
    have h1 : MapV (w1.setCell ⟨S.fb f, if s = true then 1 else 0, none⟩ v') m L S.fb c := by
      refine (hm.kept hg (fun b hb ee => ?_)).kept hg2 (fun b hb ee => ?_)
      · subst hb
        obtain ⟨C, hC⟩ := row_blk (h.fs.row f s hf) ee.symm
        exact blk_not_map hC (mapv_blk hm) rfl
      · subst hb
        injection ee with ee
        exact blk_not_map (h.fs.file f hf) (mapv_blk hm) ee.symm
    exact h1.more (fun x g _ => hfb g)
  have rowk : ∀ i t, S.live i → ¬ (i = f ∧ t = s) → (w1.setCell ⟨S.fb f, if s = true then 1 else 0, none⟩ v').ownsRow 0 5 1 (S.row i t) (d.of i t).length (u8V (d.of i t)) := fun i t hi hn => by
    refine row_same (h.fs.row i t hi) fun k hk => ?_
    obtain ⟨C, hC⟩ := row_blk (h.fs.row i t hi) hk
    exact keep2 k hC.lt (blk_ne hC (h.fs.file f hf) (by decide)) (fun h2 => hn (h.fs.sep i t f s k hi hf hk h2))
  have vsz : ∀ k, v'.ownBlock = some k → k < w1.heap.size := fun k hk => by
    obtain ⟨C, hC⟩ := row_blk ho hk
    exact hC.lt
  have rsz : ∀ i t k, S.live i → (S.row i t).ownBlock = some k → k < w.heap.size := fun i t k hi hk => by
    obtain ⟨C, hC⟩ := row_blk (h.fs.row i t hi) hk
    exact hC.lt
  have vnew : ∀ i t k, S.live i → ¬ (i = f ∧ t = s) → v'.ownBlock = some k → (S.row i t).ownBlock ≠ some k := fun i t k hi hn hk hr => by
    rcases hv with h1 | h1
    · exact hn (h.fs.sep i t f s k hi hf hr (h1 ▸ hk))
    · have := h1 k hk
      have := rsz i t k hi hr
      omega
  refine ⟨⟨?_, ?_, ?_⟩, ?_⟩
  · exact h.ds.put (blk2 h.ds.disk (by decide) (by decide) |> fun hB => by
      have : dskC (S.setRow f s v') (d.setB s f zs) = dskC S d := by cases s <;> rfl
      rw [this]; exact hB) rfl rfl r1 r3 (fun k hk => .inl hk)
  · refine ⟨?_, ?_, ?_, ?_, ?_, ?_, ?_, ?_, ?_, ?_, ?_, h.fs.mne, ?_, ?_, ?_, ?_, ?_, ?_, ?_, ?_, ?_, ?_⟩
    · have := h.fs.n0
      cases s <;> simp [Dk.setB, Sh.setRow, this]
    · have := h.fs.n1
      cases s <;> simp [Dk.setB, Sh.setRow, this]
    · intro i hi
      have := h.fs.lt i hi
      simpa [Sh.setRow] using this
    · intro i hi
      rw [hfb, hrow, hrow]
      by_cases e0 : i = f
      · subst e0
        have hp := (file1 i hi).put (if s = true then 1 else 0) v'
        cases s <;> simpa using hp
      · rw [if_neg (show ¬ (i = f ∧ false = s) from fun hh => e0 hh.1), if_neg (show ¬ (i = f ∧ true = s) from fun hh => e0 hh.1)]
        exact (file1 i hi).turn hg2 (fun ee => e0 (h.fs.inj i f hi hf (by injection ee)))
    · intro i t hi
      rw [hrow, hof]
      by_cases e0 : i = f ∧ t = s
      · rw [if_pos e0, if_pos e0]
        refine row_keep ho hg2 fun k hk hkk => ?_
        injection hk with hk
        subst hk
        exact row_blk_ne ho (file1 f hf) (by decide) hkk
      · rw [if_neg e0, if_neg e0]
        exact rowk i t hi e0
    · intro i t hi
      rw [hof]
      by_cases e0 : i = f ∧ t = s
      · rw [if_pos e0]; exact hb
      · rw [if_neg e0]; exact h.fs.bd i t hi
    · intro i t hi
      rw [hof]
      by_cases e0 : i = f ∧ t = s
      · rw [if_pos e0]; exact hl
      · rw [if_neg e0]; exact h.fs.len i t hi
    · intro i j hi hj
      rw [hfb, hfb]
      exact h.fs.inj i j hi hj
    · intro i t j u k hi hj
      rw [hrow, hrow]
      by_cases e0 : i = f ∧ t = s
      · rw [if_pos e0]
        by_cases e1 : j = f ∧ u = s
        · intro _ _
          exact ⟨e0.1.trans e1.1.symm, e0.2.trans e1.2.symm⟩
        · rw [if_neg e1]
          intro h1 h2
          exact absurd h2 (vnew j u k hj e1 h1)
      · rw [if_neg e0]
        by_cases e1 : j = f ∧ u = s
        · rw [if_pos e1]
          intro h1 h2
          exact absurd h1 (vnew i t k hi e0 h2)
        · rw [if_neg e1]
          exact h.fs.sep i t j u k hi hj
    · rw [r5]; exact map2 h.fs.mp0
    · rw [r6]; exact map2 h.fs.mp1
    · rw [r5]; exact h.fs.nam0
    · rw [r6]; exact h.fs.nam1
    · rw [r5]; exact h.fs.nd0
    · rw [r6]; exact h.fs.nd1
    · rw [r5]; exact h.fs.sz0
    · rw [r6]; exact h.fs.sz1
    · intro i hi
      rw [hfb]
      exact .inl (h.fs.of i hi)
    · intro i t k hi
      rw [hrow]
      by_cases e0 : i = f ∧ t = s
      · rw [if_pos e0]
        exact fun hk => .inr hk
      · rw [if_neg e0]
        exact fun hk => .inl (h.fs.or i t k hi hk)
    · exact fun b hb => .inl (h.fs.om0 b hb)
    · exact fun b hb => .inl (h.fs.om1 b hb)
  · intro k hk
    have hsz : (w1.setCell ⟨S.fb f, if s = true then 1 else 0, none⟩ v').heap.size = w1.heap.size := by simp [World.setCell]
    rw [hsz]
    rcases hk with hk | hk
    · exact Nat.lt_of_lt_of_le (h.sm k hk) hg.size
    · exact vsz k hk
  · refine ⟨hg2.os.trans hg.os, hg2.tape.trans hg.tape, hg2.output.trans hg.output, Nat.le_trans hg.size hg2.size, ?_, ?_, rfl, rfl, rfl, rfl, by simp [Sh.setRow], hfb, rfl, fun k hk => .inl hk, ?_, ?_⟩
    · intro k hk hn
      refine keep2 k hk (fun e0 => hn ?_) (fun e0 => hn ?_)
      · subst e0
        exact .inr (.inl ⟨_, h.fs.file f hf⟩)
      · obtain ⟨C, hC⟩ := row_blk (h.fs.row f s hf) e0
        exact .inr (.inr (.inr ⟨⟨C, hC⟩, f, s, hf, e0⟩))
    · intro k hk hn
      refine keep2 k hk (fun e0 => hn ?_) (fun e0 => hn ?_)
      · subst e0
        exact h.fs.of f hf
      · exact h.fs.or f s k hf e0
    · intro k hk
      rcases hk with hk | hk
      · exact .inl hk
      · rcases hv with h1 | h1
        · exact .inl (h.fs.or f s k hf (h1 ▸ hk))
        · exact .inr (h1 k hk)
    · intro i t k hi
      rw [hrow]
      by_cases e0 : i = f ∧ t = s
      · rw [if_pos e0]
        obtain ⟨rfl, rfl⟩ := e0
        intro hk
        rcases hv with h1 | h1
        · exact .inl (h1 ▸ hk)
        · exact .inr (h1 k hk)
      · rw [if_neg e0]
        exact fun hk => .inl hk
end Go.Proofs.Ythogdieplfpopaa
namespace Go.Proofs.Ythogdieplfpopaa
open Go.RowKit Go.WideMaps Go.Maps
set_option linter.unusedVariables false
set_option linter.unusedSimpArgs false

theorem Fs.up {w : World} {S : Sh} {d : Dk} {c c' e e' : Nat} (h : Fs w S d c e) (hc : c ≤ c') (he : e ≤ e') : Fs w S d c' e' :=
  ⟨h.n0, h.n1, h.lt, h.file, h.row, h.bd, fun i s hi => Nat.le_trans (h.len i s hi) he, h.inj, h.sep, h.mp0.up hc, h.mp1.up hc, h.mne, h.nam0, h.nam1, h.nd0, h.nd1, h.sz0, h.sz1, h.of, h.or, h.om0, h.om1⟩
theorem Hd.up {w : World} {S : Sh} {d : Dk} {c c' e e' : Nat} (h : Hd w S d c e) (hc : c ≤ c') (he : e ≤ e') : Hd w S d c' e' := ⟨h.ds, h.fs.up hc he, h.sm⟩
theorem laid_bd {zs b : List Int} {p : Nat} (h1 : ∀ n ∈ zs, 0 ≤ n ∧ n ≤ 255) (h2 : ∀ n ∈ b, 0 ≤ n ∧ n ≤ 255) : ∀ n ∈ laidD zs p b, 0 ≤ n ∧ n ≤ 255 := by
  intro n hn
  unfold laidD at hn
  rcases List.mem_append.1 hn with hn | hn
  · have hn := List.mem_of_mem_take hn
    rcases List.mem_append.1 hn with hn | hn
    · exact h1 n hn
    · rw [List.eq_of_mem_replicate hn]; decide
  · rcases List.mem_append.1 hn with hn | hn
    · exact h2 n hn
    · exact h1 n (List.mem_of_mem_drop hn)
def ActPost (w : World) (S : Sh) (d : Dk) (c e : Nat) (r : Ending) (w' : World) : Prop := r = .returned (.tuple #[]) ∧ ∃ S', Mv w w' S S' ∧ Hd w' S' d c e
set_option maxHeartbeats 1600000 in
theorem wri_ok {w : World} {S : Sh} {d : Dk} {c e : Nat} (h : Hd w S d c e) (s : Bool) {f p : Nat} {b : List Int} {bf ba bb cap : Nat} {a : Option Addr} (hf : S.live f) (hbf : Blk w bf #[ptrV (S.fb f)] 73) (hba : Blk w ba #[.int .i64 p] 3) (hbb : Blk w bb #[.slice a b.length cap] 32)
    (hob : w.ownsRow 0 5 1 (.slice a b.length cap) b.length (u8V b)) (hbd : ∀ n ∈ b, 0 ≤ n ∧ n ≤ 255) (hsep : ∀ k, (Value.slice a b.length cap).ownBlock = some k → (S.row f s).ownBlock ≠ some k) (hpe : p + b.length ≤ e) (he : e ≤ 1099511627776) :
    Calls Try.prog 81 #[.int .i64 (if s = true then 1 else 0), ptrV bf, ptrV ba, ptrV bb] w (ActPost w S (d.setB s f (laidD (d.of f s) p b)) c e) := by
  have hrow := h.fs.row f s hf
  have hfile := h.fs.file f hf
  have hzl := h.fs.len f s hf
  have hcell : w.drew.cell? ⟨S.fb f, if s = true then 1 else 0, none⟩ = some (S.row f s) := by
    cases s
    · exact hfile.cell 0
    · exact hfile.cell 1
  have HK0 : Hid (WKeep w.drew (S.fb f) bf ba bb (if s = true then 1 else 0) p (S.row f s) (.slice a b.length cap)) := Lib.hid ⟨hbf.cell 0, hba.cell 0, hbb.cell 0, hcell, hfile.frozen _⟩
  have hover := over_ok (S.row f s) (.slice a b.length cap) (d.of f s) b p w.drew hrow hob (fun k hk hk2 => hsep k hk2 hk) (by omega) (by omega)
  have HC : Hid (Calls Try.prog 82 #[S.row f s, .int .i64 p, .slice a b.length cap] w.drew fun r w1 => ∃ a' n c', r = .returned (.slice a' n c') ∧ WKeep w1 (S.fb f) bf ba bb (if s = true then 1 else 0) p (S.row f s) (.slice a b.length cap) ∧
      Hid (∃ S', Mv w (w1.setCell ⟨S.fb f, if s = true then 1 else 0, none⟩ (.slice a' n c')) S S' ∧ Hd (w1.setCell ⟨S.fb f, if s = true then 1 else 0, none⟩ (.slice a' n c')) S' (d.setB s f (laidD (d.of f s) p b)) c e)) := Lib.hid (hover.mono fun r w1 hr => by
    obtain ⟨v', rfl, ho, hg, hv⟩ := hr
    obtain ⟨a', c', rfl⟩ := own_slice ho
    refine ⟨a', _, c', rfl, ?_, ?_⟩
    · have ne : ∀ {k C t}, Blk w k C t → t ≠ 5 → some k ≠ (S.row f s).ownBlock := fun {k C t} hB ht ee => row_blk_ne hrow hB (fun e => ht e.symm) ee.symm
      have t1 := Blk.turn (w := w.drew) (w' := w1) hbf hg (ne hbf (by decide))
      have t2 := Blk.turn (w := w.drew) (w' := w1) hba hg (ne hba (by decide))
      have t3 := Blk.turn (w := w.drew) (w' := w1) hbb hg (ne hbb (by decide))
      have t4 := Blk.turn (w := w.drew) (w' := w1) hfile hg (ne hfile (by decide))
      refine ⟨t1.cell 0, t2.cell 0, t3.cell 0, ?_, t4.frozen _⟩
      cases s
      · exact t4.cell 0
      · exact t4.cell 1
    · obtain ⟨hh, hm⟩ := h.drew.setRow s hf hg ho (by
        rcases hv with h1 | h1
        · exact .inl h1
        · exact .inr (fun k hk => by rw [h1] at hk; injection hk with hk; exact Nat.le_of_eq hk)) (laid_bd (h.fs.bd f s hf) hbd) (by rw [laid_len]; omega)
      exact Lib.hid ⟨_, hm.ofDrew, hh⟩)
  cases s
  · exact wrt_0 p _ HK0 HC
  · exact wrt_1 p _ HK0 HC
theorem names_k2 {L : List Dn} {o : Do} (h : o.k = 2) : namesD L o = withD L o.to o.f := by unfold namesD; rw [if_pos h]
theorem names_k4 {L : List Dn} {o : Do} (h : o.k = 4) : namesD L o = withoutD L o.fr := by unfold namesD; rw [if_neg (by omega), if_pos h]
theorem names_k3 {L : List Dn} {o : Do} (h : o.k = 3) : namesD L o = renL L o.fr o.to := by unfold namesD renL; rw [if_neg (by omega), if_neg (by omega)]; cases findD L o.fr <;> rfl
/-- Any of them. -/
theorem act_ok {w : World} {S : Sh} {d : Dk} {c e : Nat} {o : Do} {c0 c1 : Value} (h : Hd w S d c e) (ho : OpAt w S e o c0 c1) (s : Bool) (hc : c < maxLen) (he : e ≤ 1099511627776) :
    (∃ x y z, c1 = .func (.func 81) #[] #[x, y, z] ∧ Calls Try.prog 81 #[.int .i64 (if s = true then 1 else 0), x, y, z] w (ActPost w S (actD s d o) (c + 1) e)) ∨
    (∃ x y z, c1 = .func (.func 79) #[] #[x, y, z] ∧ Calls Try.prog 79 #[.int .i64 (if s = true then 1 else 0), x, y, z] w (ActPost w S (actD s d o) (c + 1) e)) ∨
    (∃ x y z, c1 = .func (.func 84) #[] #[x, y, z] ∧ Calls Try.prog 84 #[.int .i64 (if s = true then 1 else 0), x, y, z] w (ActPost w S (actD s d o) (c + 1) e)) ∨
    (∃ x y, c1 = .func (.func 85) #[] #[x, y] ∧ Calls Try.prog 85 #[.int .i64 (if s = true then 1 else 0), x, y] w (ActPost w S (actD s d o) (c + 1) e)) := by
  rcases ho with ⟨k1, r0, bf, ba, bb, cap, a, r1, x1, x2, x3, x4, x5, x6, x7, x8, x9, x10, x11, x12⟩ | ⟨k1, r0, bd, bn, bf, r1, x1, x2, x3, y1, y2, y3, x4, x5⟩ | ⟨k1, r0, bd, ba, bb, r1, x1, x2, x3, y1, y2, y3, x4, x5⟩ | ⟨k1, r0, bd, bn, r1, x1, x2, y1, y2, x3⟩
  · refine .inl ⟨_, _, _, r1, (wri_ok h s x12 x1 x2 x3 x4 x5 (fun k hk => x10 o.f s k x12 hk) x11 he).mono fun r w' hr => ?_⟩
    obtain ⟨h1, S', h2, h3⟩ := hr
    refine ⟨h1, S', h2, ?_⟩
    unfold actD
    rw [if_pos k1]
    exact h3.up (Nat.le_succ _) (Nat.le_refl _)
  · refine .inr (.inl ⟨_, _, _, r1, (cre_ok h s x5 hc x4 x1 x2 x3).mono fun r w' hr => ?_⟩)
    obtain ⟨h1, S', h2, h3⟩ := hr
    refine ⟨h1, S', h2, ?_⟩
    unfold actD
    rw [if_neg (by omega), names_k2 k1]
    exact h3
  · refine .inr (.inr (.inl ⟨_, _, _, r1, (ren_ok h s x4 x5 hc x1 x2 x3).mono fun r w' hr => ?_⟩))
    obtain ⟨h1, S', h2, h3⟩ := hr
    refine ⟨h1, S', h2, ?_⟩
    unfold actD
    rw [if_neg (by omega), names_k3 k1]
    exact h3
  · refine .inr (.inr (.inr ⟨_, _, r1, (rem_ok h s x3 x1 x2).mono fun r w' hr => ?_⟩))
    obtain ⟨h1, h2, h3⟩ := hr
    refine ⟨h1, S, h2, ?_⟩
    unfold actD
    rw [if_neg (by omega), names_k4 k1]
    exact h3.up (Nat.le_succ _) (Nat.le_refl _)
end Go.Proofs.Ythogdieplfpopaa
namespace Go.Proofs.Ythogdieplfpopaa
open Go.RowKit Go.WideMaps Go.Maps
set_option linter.unusedVariables false
set_option linter.unusedSimpArgs false

/-- What a call on a disk leaves of all that is not the disk's. -/
structure Fr (w w' : World) (S S' : Sh) : Prop where
  os : w'.os = w.os
  tape : w'.tape = w.tape
  output : w'.output = w.output
  size : w.heap.size ≤ w'.heap.size
  frm : ∀ k, k < w.heap.size → ¬ S.own k → w'.heap[k]? = w.heap[k]?
  g : S'.g = S.g
  own' : ∀ k, S'.own k → S.own k ∨ w.heap.size ≤ k
theorem Mv.fr {w w' : World} {S S' : Sh} (m : Mv w w' S S') : Fr w w' S S' := ⟨m.os, m.tape, m.output, m.size, m.frm, m.g, m.own'⟩
theorem Fr.refl (w : World) (S : Sh) : Fr w w S S := ⟨rfl, rfl, rfl, Nat.le_refl _, fun _ _ _ => rfl, rfl, fun _ h => .inl h⟩
theorem Fr.trans {w w' w'' : World} {S S' S'' : Sh} (h : Fr w w' S S') (h' : Fr w' w'' S' S'') : Fr w w'' S S'' :=
  ⟨h'.os.trans h.os, h'.tape.trans h.tape, h'.output.trans h.output, Nat.le_trans h.size h'.size, fun k hk hn => by
    rw [h'.frm k (Nat.lt_of_lt_of_le hk h.size) (fun hx => ?_), h.frm k hk hn]
    rcases h.own' k hx with h1 | h1
    · exact hn h1
    · omega, h'.g.trans h.g, fun k hk => by
    rcases h'.own' k hk with h1 | h1
    · exact h.own' k h1
    · exact .inr (Nat.le_trans h.size h1)⟩
theorem Fr.drew {w w' : World} {S S' : Sh} (m : Fr w w' S S') : Fr w w'.drew S S' := ⟨m.os, m.tape, m.output, m.size, m.frm, m.g, m.own'⟩
theorem Fr.ofDrew {w w' : World} {S S' : Sh} (m : Fr w.drew w' S S') : Fr w w' S S' := ⟨m.os, m.tape, m.output, m.size, m.frm, m.g, m.own'⟩
theorem OpAt.keepx {w w' : World} {S S' : Sh} {e : Nat} {o : Do} {c0 c1 : Value} (h : OpAt w S e o c0 c1) (hk : ∀ k C t, Blk w k C t → t ≠ 63 → t ≠ 83 → w'.heap[k]? = w.heap[k]?)
    (h1 : S'.g = S.g) (h2 : ∀ i, S'.fb i = S.fb i) (h3 : S'.live = S.live) (h4 : ∀ i s, S'.row i s = S.row i s) (h5 : ∀ k, S.own k → S'.own k) : OpAt w' S' e o c0 c1 := by
  have hb : ∀ {g : Nat} {C : Array Value} {t : TypeId}, Blk w g C t → (t = 73 ∨ t = 24 ∨ t = 9 ∨ t = 3 ∨ t = 32) → Blk w' g C t := fun {g C t} h ht => by
    rcases ht with rfl | rfl | rfl | rfl | rfl <;> exact blk_same h (hk _ _ _ h (by decide) (by decide))
  unfold OpAt at h ⊢
  rw [h1, h3, h2]
  rcases h with ⟨k1, r0, bf, ba, bb, cap, a, r1, x1, x2, x3, x4, x5, x6, x7, x8, x9, x10, x11, x12⟩ | ⟨k1, r0, bd, bn, bf, r1, x1, x2, x3, y1, y2, y3, x4⟩ | ⟨k1, r0, bd, ba, bb, r1, x1, x2, x3, y1, y2, y3, x4⟩ | ⟨k1, r0, bd, bn, r1, x1, x2, y1, y2, x3⟩
  · refine .inl ⟨k1, r0, bf, ba, bb, cap, a, r1, hb x1 (by simp), hb x2 (by simp), hb x3 (by simp), ?_, x5, h5 _ x6, h5 _ x7, h5 _ x8, fun k hk => h5 _ (x9 k hk), ?_, x11, x12⟩
    · refine row_same x4 fun k hkk => ?_
      obtain ⟨C, hC⟩ := row_blk x4 hkk
      exact hk k C _ hC (by decide) (by decide)
    · intro i s k hl hkk
      rw [h4]
      exact x10 i s k hl hkk
  · exact .inr (.inl ⟨k1, r0, bd, bn, bf, r1, hb x1 (by simp), hb x2 (by simp), hb x3 (by simp), h5 _ y1, h5 _ y2, h5 _ y3, x4⟩)
  · exact .inr (.inr (.inl ⟨k1, r0, bd, ba, bb, r1, hb x1 (by simp), hb x2 (by simp), hb x3 (by simp), h5 _ y1, h5 _ y2, h5 _ y3, x4⟩))
  · exact .inr (.inr (.inr ⟨k1, r0, bd, bn, r1, hb x1 (by simp), hb x2 (by simp), h5 _ y1, h5 _ y2, x3⟩))
def Sh.setP (S : Sh) (v : Value) (pc : List Value) : Sh := { S with pv := v, pc := pc, own := fun k => S.own k ∨ v.ownBlock = some k }
theorem At.pend {w w2 : World} {S : Sh} {d : Dk} {c e : Nat} (h : Hd w S d c e) {n0 : Nat} {xs0 : List Value} (hpv : w.ownsRow 0 83 2 S.pv n0 xs0) (hop : ∀ k, S.pv.ownBlock = some k → S.own k) (hg : w.grownBy w2 S.pv.ownBlock)
    {v' : Value} {pc : List Value} {wl : List Do} (ho : w2.ownsRow 0 83 2 v' wl.length pc) (hv : v'.ownBlock = S.pv.ownBlock ∨ ∀ k, v'.ownBlock = some k → w.heap.size ≤ k)
    (ops : ∀ j, j < wl.length → OpAt w S e (wl.getD j do0) (pc.getD (2 * j) undef) (pc.getD (2 * j + 1) undef)) (hle : wl.length ≤ c) :
    At (w2.setCell ⟨S.g, 3, none⟩ v') (S.setP v' pc) { d with wait := wl } c e ∧ Fr w (w2.setCell ⟨S.g, 3, none⟩ v') S (S.setP v' pc) := by
  have hg2 := grown_set w2 S.g 3 v'
  have keep : ∀ k, k < w.heap.size → k ≠ S.g → S.pv.ownBlock ≠ some k → (w2.setCell ⟨S.g, 3, none⟩ v').heap[k]? = w.heap[k]? := fun k hk h1 h2 => by
    rw [hg2.block k (Nat.lt_of_lt_of_le hk hg.size) (fun ee => h1 (by injection ee)), hg.block k hk (fun ee => h2 ee.symm)]
  have hkt : ∀ k C t, Blk w k C t → t ≠ 63 → t ≠ 83 → (w2.setCell ⟨S.g, 3, none⟩ v').heap[k]? = w.heap[k]? := fun k C t hB h1 h2 =>
    keep k hB.lt (blk_ne hB h.ds.disk h1) (fun hk => row_blk_ne hpv hB (fun e => h2 e.symm) hk)
  have disk2 : Blk w2 S.g (dskC S d) 63 := h.ds.disk.turn hg (fun ee => row_blk_ne hpv h.ds.disk (by decide) ee.symm)
  have map2 : ∀ {m : Option Nat} {L : List Dn}, MapV w m L S.fb c → MapV (w2.setCell ⟨S.g, 3, none⟩ v') m L S.fb c := fun {m L} hm => by
    refine (hm.kept hg (fun b hb ee => ?_)).kept hg2 (fun b hb ee => ?_)
    · subst hb
      obtain ⟨C, hC⟩ := row_blk hpv ee.symm
      exact blk_not_map hC (mapv_blk hm) rfl
    · subst hb
      injection ee with ee
      exact blk_not_map h.ds.disk (mapv_blk hm) ee.symm
  have f := h.fs
  have vsz : ∀ k, v'.ownBlock = some k → k < w2.heap.size := fun k hk => by
    obtain ⟨C, hC⟩ := row_blk ho hk
    exact hC.lt
  refine ⟨⟨?_, ?_, ?_, ?_⟩, ?_⟩
  · refine ⟨?_, h.ds.cut, h.ds.lb, h.ds.rb, .inl h.ds.og⟩
    have := disk2.put 3 v'
    simpa [dskC, Sh.setP] using this
  · refine ⟨f.n0, f.n1, f.lt, fun i hi => ?_, fun i s hi => ?_, f.bd, f.len, f.inj, f.sep, map2 f.mp0, map2 f.mp1, f.mne, f.nam0, f.nam1, f.nd0, f.nd1, f.sz0, f.sz1, fun i hi => .inl (f.of i hi), fun i s k hi hk => .inl (f.or i s k hi hk), fun b hb => .inl (f.om0 b hb), fun b hb => .inl (f.om1 b hb)⟩
    · exact blk_same (f.file i hi) (hkt _ _ _ (f.file i hi) (by decide) (by decide))
    · refine row_same (f.row i s hi) fun k hk => ?_
      obtain ⟨C, hC⟩ := row_blk (f.row i s hi) hk
      exact hkt k C _ hC (by decide) (by decide)
  · refine ⟨?_, fun j hj => (ops j hj).keepx hkt rfl (fun _ => rfl) rfl (fun _ _ => rfl) (fun _ h => .inl h), hle, fun k hk => .inr hk⟩
    refine row_keep ho hg2 fun k hk hkk => ?_
    injection hk with hk
    subst hk
    exact row_blk_ne ho disk2 (by decide) hkk
  · intro k hk
    have hsz : (w2.setCell ⟨S.g, 3, none⟩ v').heap.size = w2.heap.size := by simp [World.setCell]
    rw [hsz]
    rcases hk with hk | hk
    · exact Nat.lt_of_lt_of_le (h.sm k hk) hg.size
    · exact vsz k hk
  · refine ⟨hg2.os.trans hg.os, hg2.tape.trans hg.tape, hg2.output.trans hg.output, Nat.le_trans hg.size hg2.size, fun k hk hn => keep k hk (fun e0 => hn (by rw [e0]; exact h.ds.og)) (fun e0 => hn (hop k e0)), rfl, fun k hk => ?_⟩
    rcases hk with hk | hk
    · exact .inl hk
    · rcases hv with h1 | h1
      · exact .inl (hop k (h1 ▸ hk))
      · exact .inr (h1 k hk)
theorem info_chg : (Try.prog.info? 83).map (fun i => (i.zero, i.size, i.bytes)) = some (some (.agg #[.pointer none, .nilFunc]), 2, 16) := by kernel_rfl
theorem wait_act (d : Dk) (o : Do) : waitD d o = { actD false d o with wait := d.wait ++ [o] } := by
  unfold waitD actD
  split <;> rfl
theorem act_wait (s : Bool) (d : Dk) (o : Do) : (actD s d o).wait = d.wait := by
  unfold actD
  split
  · exact (setB_room d s _ _).2.2.2.1
  · exact (setN_room d s _).2.2.2
theorem getD_snoc (L : List Value) (n : Nat) (a b : Value) (hL : L.length = 2 * n) (j : Nat) : (L ++ [a, b]).getD (2 * j) undef = (if j < n then L.getD (2 * j) undef else if j = n then a else undef) ∧ (L ++ [a, b]).getD (2 * j + 1) undef = (if j < n then L.getD (2 * j + 1) undef else if j = n then b else undef) := by
  simp only [List.getD_eq_getElem?_getD]
  by_cases h : j < n
  · rw [if_pos h, if_pos h, List.getElem?_append_left (by omega), List.getElem?_append_left (by omega)]
    exact ⟨rfl, rfl⟩
  · rw [if_neg h, if_neg h, List.getElem?_append_right (by omega), List.getElem?_append_right (by omega)]
    by_cases h2 : j = n
    · subst h2
      rw [hL]
      have e1 : 2 * j - 2 * j = 0 := by omega
      have e2 : 2 * j + 1 - 2 * j = 1 := by omega
      rw [e1, e2]
      simp
    · rw [if_neg h2, if_neg h2]
      rw [List.getElem?_eq_none (by simp; omega), List.getElem?_eq_none (by simp; omega)]
      exact ⟨rfl, rfl⟩
end Go.Proofs.Ythogdieplfpopaa
