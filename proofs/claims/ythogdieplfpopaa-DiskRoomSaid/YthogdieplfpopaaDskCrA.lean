/-
  What is proved here: a disk of which fewer files are spoken of; one whose plain words differ at files that aren't spoken of. · maps.Clone of a directory. · what the steps of Crash make, in words. · Crash's step from the sure directory to the current one, in words. · Crash's second loop and its end, in words.
  Conditions: as they say.
-/
import Derived.Test.YthogdieplfpopaaDskM2
import Derived.Shelf.SlMaps.Clone
import Derived.Test.YthogdieplfpopaaDskUse
namespace Go.Proofs.Ythogdieplfpopaa
open Go.RowKit Go.WideMaps Go.Maps
set_option linter.unusedVariables false
set_option linter.unusedSimpArgs false

theorem Fs.less {w : World} {S : Sh} {d : Dk} {c e : Nat} (h : Fs w S d c e) (lv : Nat → Prop) (hl : ∀ i, lv i → S.live i) (n0 : ∀ x ∈ d.l, lv x.f) (n1 : ∀ x ∈ d.s, lv x.f) : Fs w { S with live := lv } d c e :=
  ⟨h.n0, h.n1, fun i hi => h.lt i (hl i hi), fun i hi => h.file i (hl i hi), fun i s hi => h.row i s (hl i hi), fun i s hi => h.bd i s (hl i hi), fun i s hi => h.len i s (hl i hi), fun i j hi hj => h.inj i j (hl i hi) (hl j hj), fun i s j t k hi hj => h.sep i s j t k (hl i hi) (hl j hj), h.mp0, h.mp1, h.mne, n0, n1, h.nd0, h.nd1, h.sz0, h.sz1, fun i hi => h.of i (hl i hi), fun i s k hi => h.or i s k (hl i hi), h.om0, h.om1⟩
theorem Fs.alike {w : World} {S : Sh} {d d' : Dk} {c e : Nat} (h : Fs w S d c e) (n0 : d'.is.length = d.is.length) (n1 : d'.su.length = d.su.length) (hl : d'.l = d.l) (hs : d'.s = d.s) (ha : ∀ i s, S.live i → d'.of i s = d.of i s) : Fs w S d' c e :=
  ⟨n0.trans h.n0, n1.trans h.n1, h.lt, h.file, fun i s hi => by rw [ha i s hi]; exact h.row i s hi, fun i s hi => by rw [ha i s hi]; exact h.bd i s hi, fun i s hi => by rw [ha i s hi]; exact h.len i s hi, h.inj, h.sep, by rw [hl]; exact h.mp0, by rw [hs]; exact h.mp1, h.mne, by rw [hl]; exact h.nam0, by rw [hs]; exact h.nam1, by rw [hl]; exact h.nd0, by rw [hs]; exact h.nd1, by rw [hl]; exact h.sz0, by rw [hs]; exact h.sz1, h.of, h.or, h.om0, h.om1⟩
/-- The two directories become alike: a new map that reads as the sure one lies in the place of the current one. -/
theorem Fs.back {w w' : World} {S : Sh} {d : Dk} {c e b : Nat} (h : Fs w S d c e) (hg : w.grownBy w' none) (hm : MapV w' (some b) d.s S.fb c) (hb : w.heap.size ≤ b) (hsm : ∀ k, S.own k → k < w.heap.size) : Fs w' { S with m0 := some b, own := fun k => S.own k ∨ k = b } { d with l := d.s } c e := by
  have f := h.turn hg (fun _ h => by cases h)
  exact ⟨f.n0, f.n1, f.lt, f.file, f.row, f.bd, f.len, f.inj, f.sep, hm, f.mp1, fun b' hb' ee => (by injection hb' with hb'; subst hb'; have := hsm _ (h.om1 _ ee); omega), f.nam1, f.nam1, f.nd1, f.nd1, f.sz1, f.sz1, fun i hi => .inl (f.of i hi), fun i s k hi hk => .inl (f.or i s k hi hk), fun b' hb' => (by injection hb' with hb'; exact .inr hb'.symm), fun b' hb' => .inl (f.om1 b' hb')⟩
theorem Fs.backNil {w : World} {S : Sh} {d : Dk} {c e : Nat} (h : Fs w S d c e) (hm : S.m1 = none) : Fs w { S with m0 := none } { d with l := d.s } c e := by
  have hs : d.s = [] := by
    have := h.mp1
    rw [hm] at this
    exact this
  exact ⟨h.n0, h.n1, h.lt, h.file, h.row, h.bd, h.len, h.inj, h.sep, hs, h.mp1, (fun b hb => by cases hb), h.nam1, h.nam1, h.nd1, h.nd1, h.sz1, h.sz1, h.of, h.or, (fun b hb => by cases hb), h.om1⟩
end Go.Proofs.Ythogdieplfpopaa
namespace Go.Proofs.Ythogdieplfpopaa
open Go.RowKit Go.WideMaps Go.Maps
set_option linter.unusedVariables false
set_option linter.unusedSimpArgs false

set_option maxHeartbeats 2000000 in
set_option maxRecDepth 100000 in
theorem mclone_some (b : Nat) (es : Array MapEntry) (clock : Nat) (w : World) (hb : w.heap[b]? = some (.map es clock)) :
    Calls Try.prog 54 #[.map (some b)] w fun e w' => e = .returned (.map (some w.heap.size)) ∧ w' = w.alloc (.map es clock) := by
  have hq := eql_some b w
  go_enter Try.func54, Try.ntmps54
  go_wp2
  rw [run_callFunc_extern Try.func83 (by kernel_rfl) (by kernel_rfl) (by kernel_rfl) (e := Extern.MapsClone.clone) (by kernel_rfl), run_maps_clone_sl w 59 hb]
  simp only [Result.andThen]
  rw [Oper.upon_value]
  go_wp2
  first
    | (go_ret; exact ⟨rfl, rfl⟩)
    | (rw [run_typeAssert_map_sl _ 59 _ _ _ _ Try.underlying59]
       simp only [Result.andThen]
       rw [Oper.upon_value]
       go_wp2
       go_ret
       exact ⟨rfl, rfl⟩)
set_option maxRecDepth 100000 in
theorem mclone_none (w : World) : Calls Try.prog 54 #[.map none] w fun e w' => w' = w ∧ e = .returned (.map none) := by
  have hq := eql_none w
  go_enter Try.func54, Try.ntmps54
  go_wp2
  go_ret
  exact ⟨rfl, rfl⟩
/-- In words of directories. -/
theorem mclone_ok {w : World} {b : Nat} {L : List Dn} {fb : Nat → Nat} {c : Nat} (h : MapV w (some b) L fb c) :
    Calls Try.prog 54 #[.map (some b)] w fun e w' => e = .returned (.map (some w.heap.size)) ∧ MapV w' (some w.heap.size) L fb c ∧ w.grownBy w' none := by
  obtain ⟨D, n, hn, ⟨es, clock, hb, F, hs, hD⟩, hi⟩ := h
  refine (mclone_some b es clock w hb).mono fun r w' hr => ?_
  obtain ⟨rfl, rfl⟩ := hr
  exact ⟨rfl, ⟨D, n, hn, ⟨es, clock, heap_alloc_new w _, F, hs, hD⟩, hi⟩, World.grownBy_alloc w _ none⟩
end Go.Proofs.Ythogdieplfpopaa
namespace Go.Proofs.Ythogdieplfpopaa
open Go.RowKit Go.WideMaps Go.Maps
set_option linter.unusedVariables false
set_option linter.unusedSimpArgs false

/-- k changes have come up; those chosen are done to what is sure. -/
structure CrI (w : World) (S : Sh) (d : Dk) (c e : Nat) (ch : Nat → Do → Bool) (k : Nat) (wr : World) (Si : Sh) (Di : Dk) : Prop where
  mv : Mv w wr S Si
  hd : Hd wr Si Di (c + k) e
  wt : Di.wait = d.wait
  eq : ∃ rl, settleD ch k (d.wait.drop k) { Di with wait := rl } = settledD d ch
theorem CrI.start {w : World} {S : Sh} {d : Dk} {c e : Nat} {ch : Nat → Do → Bool} (h : Hd w S d c e) : CrI w S d c e ch 0 w S d := ⟨Mv.refl _ _, h, rfl, [], rfl⟩
theorem CrI.alloc {w wr : World} {S Si : Sh} {d Di : Dk} {c e k : Nat} {ch : Nat → Do → Bool} (h : CrI w S d c e ch k wr Si Di) (o : Obj) : CrI w S d c e ch k (wr.alloc o) Si Di := by
  have hg := World.grownBy_alloc wr o none
  exact ⟨h.mv.grown hg (fun _ h => by cases h), h.hd.grown hg (fun _ h => by cases h), h.wt, h.eq⟩
theorem CrI.yes {w wr w2 : World} {S Si S2 : Sh} {d Di : Dk} {c e k : Nat} {ch : Nat → Do → Bool} (h : CrI w S d c e ch k wr Si Di) (hk : k < d.wait.length) (hc : ch k (d.wait.getD k do0) = true)
    (m : Mv wr w2 Si S2) (h2 : Hd w2 S2 (actD true Di (d.wait.getD k do0)) (c + k + 1) e) : CrI w S d c e ch (k + 1) w2 S2 (actD true Di (d.wait.getD k do0)) where
  mv := h.mv.trans m
  hd := h2
  wt := (act_wait true Di _).trans h.wt
  eq := by
    obtain ⟨rl, h0⟩ := h.eq
    rw [drop_at hk, settleD, if_pos hc] at h0
    refine ⟨rl, ?_⟩
    rw [← h0]
    unfold actD
    by_cases e1 : (d.wait.getD k do0).k = 1
    · rw [if_pos e1, if_pos e1]; rfl
    · rw [if_neg e1, if_neg e1]; rfl
theorem CrI.skip {w wr : World} {S Si : Sh} {d Di : Dk} {c e k : Nat} {ch : Nat → Do → Bool} (h : CrI w S d c e ch k wr Si Di) (hk : k < d.wait.length) (hc : ch k (d.wait.getD k do0) = false) : CrI w S d c e ch (k + 1) wr Si Di where
  mv := h.mv
  hd := h.hd.up (by omega) (Nat.le_refl _)
  wt := h.wt
  eq := by
    obtain ⟨rl, h0⟩ := h.eq
    rw [drop_at hk, settleD, if_neg (by rw [hc]; decide)] at h0
    exact ⟨_, h0⟩
theorem CrI.done {w wr : World} {S Si : Sh} {d Di : Dk} {c e k : Nat} {ch : Nat → Do → Bool} (h : CrI w S d c e ch k wr Si Di) (hk : k = d.wait.length) : Mv w wr S Si ∧ Hd wr Si Di (c + d.wait.length) e ∧ ∃ rl, { Di with wait := rl } = settledD d ch := by
  subst hk
  obtain ⟨rl, h0⟩ := h.eq
  rw [List.drop_eq_nil_of_le (Nat.le_refl _), settleD] at h0
  exact ⟨h.mv, h.hd, rl, h0⟩
/-- The sure directory, anew, in the place of the current one. -/
theorem Hd.back {w w' : World} {S : Sh} {d : Dk} {c e b : Nat} (h : Hd w S d c e) (hg : w.grownBy w' none) (hm : MapV w' (some b) d.s S.fb c) (hb : w.heap.size ≤ b) (hb2 : b < w'.heap.size) :
    Hd (w'.setCell ⟨S.g, 1, none⟩ (.map (some b))) { S with m0 := some b, own := fun k => S.own k ∨ k = b } { d with l := d.s } c e ∧ Fr w (w'.setCell ⟨S.g, 1, none⟩ (.map (some b))) S { S with m0 := some b, own := fun k => S.own k ∨ k = b } := by
  have hg2 := grown_set w' S.g 1 (.map (some b))
  have hd1 : Blk w' S.g (dskC S d) 63 := h.ds.disk.turn hg (by simp)
  have hf := h.fs.back hg hm hb h.sm
  refine ⟨⟨⟨?_, h.ds.cut, h.ds.lb, h.ds.rb, .inl h.ds.og⟩, hf.turn hg2 (fun k hk => by injection hk with hk; subst hk; exact ⟨_, _, hd1, by decide, by decide⟩), fun k hk => ?_⟩, ?_⟩
  · have := hd1.put 1 (.map (some b))
    simpa [dskC] using this
  · have hsz : (w'.setCell ⟨S.g, 1, none⟩ (.map (some b))).heap.size = w'.heap.size := by simp [World.setCell]
    rw [hsz]
    rcases hk with hk | hk
    · exact Nat.lt_of_lt_of_le (h.sm k hk) hg.size
    · omega
  · refine ⟨hg2.os.trans hg.os, hg2.tape.trans hg.tape, hg2.output.trans hg.output, Nat.le_trans hg.size hg2.size, fun k hk hn => ?_, rfl, fun k hk => ?_⟩
    · rw [hg2.block k (Nat.lt_of_lt_of_le hk hg.size) (fun ee => by injection ee with ee; subst ee; exact hn h.ds.og), hg.block k hk (by simp)]
    · rcases hk with hk | hk
      · exact .inl hk
      · exact .inr (by omega)
theorem Hd.backNil {w : World} {S : Sh} {d : Dk} {c e : Nat} (h : Hd w S d c e) (hm : S.m1 = none) :
    Hd (w.setCell ⟨S.g, 1, none⟩ (.map none)) { S with m0 := none } { d with l := d.s } c e ∧ Fr w (w.setCell ⟨S.g, 1, none⟩ (.map none)) S { S with m0 := none } := by
  have hg2 := grown_set w S.g 1 (.map none)
  have hf := h.fs.backNil hm
  refine ⟨⟨⟨?_, h.ds.cut, h.ds.lb, h.ds.rb, h.ds.og⟩, hf.turn hg2 (fun k hk => by injection hk with hk; subst hk; exact ⟨_, _, h.ds.disk, by decide, by decide⟩), fun k hk => ?_⟩, ?_⟩
  · have := h.ds.disk.put 1 (.map none)
    simpa [dskC] using this
  · have hsz : (w.setCell ⟨S.g, 1, none⟩ (.map none)).heap.size = w.heap.size := by simp [World.setCell]
    rw [hsz]; exact h.sm k hk
  · exact ⟨hg2.os, hg2.tape, hg2.output, hg2.size, fun k hk hn => hg2.block k hk (fun ee => by injection ee with ee; subst ee; exact hn h.ds.og), rfl, fun k hk => .inl hk⟩
end Go.Proofs.Ythogdieplfpopaa
namespace Go.Proofs.Ythogdieplfpopaa
open Go.RowKit Go.WideMaps Go.Maps
set_option linter.unusedVariables false
set_option linter.unusedSimpArgs false

/-- What region 7 of Crash wants of maps.Clone: the store behind it lays the current directory as the sure one. -/
theorem mclone_step {w : World} {S : Sh} {d : Dk} {c e : Nat} (h : Hd w S d c e) :
    Calls Try.prog 54 #[.map S.m1] w.drew fun r w1 => ∃ m, r = .returned (.map m) ∧ w1.frozen? ⟨S.g, 1, none⟩ = false ∧ (∃ v, w1.cell? ⟨S.g, 1, none⟩ = some v) ∧
      Hid (∃ S2, Hd (w1.setCell ⟨S.g, 1, none⟩ (.map m)) S2 { d with l := d.s } c e ∧ Fr w (w1.setCell ⟨S.g, 1, none⟩ (.map m)) S S2 ∧ S2.m0 = m ∧ S2.fl = S.fl ∧ S2.live = S.live ∧ S2.pv = S.pv ∧ S2.left = S.left) := by
  have hd := h.drew
  cases hm : S.m1 with
  | none =>
    refine (mclone_none w.drew).mono fun r w1 hr => ?_
    obtain ⟨rfl, rfl⟩ := hr
    obtain ⟨h1, h2⟩ := hd.backNil hm
    exact ⟨none, rfl, hd.ds.disk.frozen 1, ⟨_, hd.ds.disk.cell 1⟩, Lib.hid ⟨_, h1, h2.ofDrew, rfl, rfl, rfl, rfl, rfl⟩⟩
  | some b =>
    have hmp := hd.fs.mp1
    rw [hm] at hmp
    refine (mclone_ok hmp).mono fun r w1 hr => ?_
    obtain ⟨rfl, h1, h2⟩ := hr
    have hb1 := hd.ds.disk.turn h2 (by simp)
    have hlt : w.drew.heap.size < w1.heap.size := by
      obtain ⟨es, cl, hx⟩ := mapv_blk h1
      exact (Array.getElem?_eq_some_iff.1 hx).1
    obtain ⟨h3, h4⟩ := hd.back h2 h1 (Nat.le_refl _) hlt
    exact ⟨some w.drew.heap.size, rfl, hb1.frozen 1, ⟨_, hb1.cell 1⟩, Lib.hid ⟨_, h3, h4.ofDrew, rfl, rfl, rfl, rfl, rfl⟩⟩
end Go.Proofs.Ythogdieplfpopaa
namespace Go.Proofs.Ythogdieplfpopaa
open Go.RowKit Go.WideMaps Go.Maps
set_option linter.unusedVariables false
set_option linter.unusedSimpArgs false

theorem Fr.none {w w' : World} {S : Sh} (hg : w.grownBy w' none) : Fr w w' S S := ⟨hg.os, hg.tape, hg.output, hg.size, fun k hk _ => hg.block k hk (by simp), rfl, fun _ hk => .inl hk⟩
theorem find_nd : ∀ {L : List Dn} {y : Dn}, (L.map (·.n)).Nodup → y ∈ L → findD L y.n = some y.f
  | [], _, _, h => by cases h
  | z :: r, y, hn, h => by
    rw [List.map_cons, List.nodup_cons] at hn
    rw [find_cons]
    rcases List.mem_cons.1 h with rfl | h
    · rw [if_pos rfl]
    · rw [if_neg (fun e => hn.1 (by rw [e]; exact List.mem_map_of_mem h))]
      exact find_nd hn.2 h
/-- A round's word: the files of the names that have come have the sure bytes. -/
structure CrB (w : World) (S S2 : Sh) (Di : Dk) (c e it : Nat) (left : Lit → Bool) (wr : World) (Sk : Sh) (Dj : Dk) : Prop where
  hd : Hd wr Sk Dj c e
  fr : Fr w wr S Sk
  l : Dj.l = Di.s
  s : Dj.s = Di.s
  su : Dj.su = Di.su
  rm : Dj.room = Di.room
  is : ∀ x ∈ Di.s, left (keyS x.n) = false → Dj.is.getD x.f [] = Di.su.getD x.f []
  m0 : Sk.m0 = S2.m0
  live : Sk.live = S2.live
  fb : ∀ i, Sk.fb i = S2.fb i
  no : ¬ Sk.own it
  lt : it < wr.heap.size
  ge : w.heap.size ≤ it
theorem CrB.start {w w9 w0 : World} {S S2 : Sh} {Di : Dk} {c e it : Nat} {left : Lit → Bool} (h : Hd w9 S2 { Di with l := Di.s } c e) (hf : Fr w w9 S S2) (hg : w9.grownBy w0 none) (hl : ∀ x ∈ Di.s, left (keyS x.n) = true) (hi : w9.heap.size ≤ it) (hi2 : it < w0.heap.size) : CrB w S S2 Di c e it left w0 S2 { Di with l := Di.s } where
  hd := h.grown hg (fun _ h => by cases h)
  fr := hf.trans (Fr.none hg)
  l := rfl
  s := rfl
  su := rfl
  rm := rfl
  is := fun x hx hh => by rw [hl x hx] at hh; cases hh
  m0 := rfl
  live := rfl
  fb := fun _ => rfl
  no := fun hk => by have := h.sm _ hk; omega
  lt := hi2
  ge := Nat.le_trans hf.size hi
theorem CrB.turn {w wr w1 : World} {S S2 Sk : Sh} {Di Dj : Dk} {c e it : Nat} {left : Lit → Bool} {row : Option Nat} (h : CrB w S S2 Di c e it left wr Sk Dj) (hg : wr.grownBy w1 row) (hr : ∀ k, row = some k → k = it) : CrB w S S2 Di c e it left w1 Sk Dj :=
  ⟨h.hd.grown hg (fun k hk ho => h.no (hr k hk ▸ ho)), ⟨hg.os.trans h.fr.os, hg.tape.trans h.fr.tape, hg.output.trans h.fr.output, Nat.le_trans h.fr.size hg.size, fun k hk hn => by
    rw [hg.block k (Nat.lt_of_lt_of_le hk h.fr.size) (fun ee => by have := hr k ee.symm; have := h.ge; omega)]
    exact h.fr.frm k hk hn, h.fr.g, h.fr.own'⟩, h.l, h.s, h.su, h.rm, h.is, h.m0, h.live, h.fb, h.no, Nat.lt_of_lt_of_le h.lt hg.size, h.ge⟩
theorem CrB.drew {w wr : World} {S S2 Sk : Sh} {Di Dj : Dk} {c e it : Nat} {left : Lit → Bool} (h : CrB w S S2 Di c e it left wr Sk Dj) : CrB w S S2 Di c e it left wr.drew Sk Dj :=
  ⟨h.hd.drew, h.fr.drew, h.l, h.s, h.su, h.rm, h.is, h.m0, h.live, h.fb, h.no, h.lt, h.ge⟩
theorem CrB.file {w wr : World} {S S2 Sk : Sh} {Di Dj : Dk} {c e it : Nat} {left : Lit → Bool} (h : CrB w S S2 Di c e it left wr Sk Dj) {x : ByteArray} {f : Nat} (hf : findD Di.s x = some f) : Sk.live f := by
  obtain ⟨z, hz, _, rfl⟩ := find_mem hf
  exact h.hd.fs.nam1 z (by rw [h.s]; exact hz)
theorem CrB.round {w w1 w2 : World} {S S2 Sk : Sh} {Di Dj : Dk} {c e it : Nat} {left : Lit → Bool} (h : CrB w S S2 Di c e it left w1 Sk Dj) {x : ByteArray} {f : Nat} (hf : findD Di.s x = some f) {v' : Value} (hn : New1 w1 w2 v' (Di.su.getD f [])) :
    CrB w S S2 Di c e it (fun z => left z && !z.sameKey (keyS x)) (w2.setCell ⟨S2.fb f, 0, none⟩ v') (Sk.setRow f false v') (Dj.setB false f (Di.su.getD f [])) := by
  obtain ⟨n1, n2, n3⟩ := hn
  have hlf := h.file hf
  have hg : w1.grownBy w2 (Sk.row f false).ownBlock := ⟨n2.os, n2.tape, n2.output, n2.size, fun k hk _ => n2.block k hk (by simp)⟩
  have hsu : Di.su.getD f [] = Dj.of f true := by rw [← h.su]; rfl
  obtain ⟨r1, r2⟩ := h.hd.setRow false hlf hg n1 (.inr n3) (by rw [hsu]; exact h.hd.fs.bd f true hlf) (by rw [hsu]; exact h.hd.fs.len f true hlf)
  have hfl := h.hd.fs.lt f hlf
  rw [show (if (false : Bool) = true then 1 else 0) = 0 from rfl, h.fb] at r1 r2
  refine ⟨r1, h.fr.trans r2.fr, h.l, h.s, h.su, h.rm, fun y hy hh => ?_, h.m0, h.live, fun i => by rw [setRow_fb]; exact h.fb i, fun hk => ?_, Nat.lt_of_lt_of_le h.lt (Nat.le_trans n2.size (grown_set w2 (S2.fb f) 0 v').size), h.ge⟩
  · have hof := setB_of Dj (by rw [h.hd.fs.n0]; exact hfl) (by rw [h.hd.fs.n1]; exact hfl) false (Di.su.getD f []) y.f false
    have hof2 : (Dj.setB false f (Di.su.getD f [])).is.getD y.f [] = if y.f = f ∧ false = false then Di.su.getD f [] else Dj.is.getD y.f [] := hof
    rw [hof2]
    by_cases e1 : y.f = f
    · rw [if_pos ⟨e1, rfl⟩, e1]
    · rw [if_neg (fun e2 => e1 e2.1)]
      refine h.is y hy ?_
      cases e3 : left (keyS y.n) with
      | false => rfl
      | true =>
        have hh : (left (keyS y.n) && !(keyS y.n).sameKey (keyS x)) = false := hh
        rw [e3, key_same] at hh
        have e4 : y.n = x := by simpa using hh
        have := find_nd (by rw [← h.s]; exact h.hd.fs.nd1) hy
        rw [e4, hf] at this
        injection this with this
        exact absurd this.symm e1
  · rcases hk with hk | hk
    · exact h.no hk
    · have := n3 _ hk
      have := h.lt
      omega
theorem At.nopend {w0 w : World} {S0 S : Sh} {d : Dk} {c e : Nat} (h : Hd w S d c e) (hf : Fr w0 w S0 S) :
    At (w.setCell ⟨S.g, 3, none⟩ (.slice none 0 0)) (S.setP (.slice none 0 0) []) { d with wait := [] } c e ∧ Fr w0 (w.setCell ⟨S.g, 3, none⟩ (.slice none 0 0)) S0 (S.setP (.slice none 0 0) []) := by
  have hg2 := grown_set w S.g 3 (.slice none 0 0)
  have keep : ∀ k, k < w.heap.size → k ≠ S.g → (w.setCell ⟨S.g, 3, none⟩ (.slice none 0 0)).heap[k]? = w.heap[k]? := fun k hk h1 => hg2.block k hk (fun ee => h1 (by injection ee))
  have f := h.fs.turn hg2 (fun k hk => by injection hk with hk; subst hk; exact ⟨_, _, h.ds.disk, by decide, by decide⟩)
  refine ⟨⟨?_, ?_, ?_, ?_⟩, ?_⟩
  · refine ⟨?_, h.ds.cut, h.ds.lb, h.ds.rb, .inl h.ds.og⟩
    have := h.ds.disk.put 3 (.slice none 0 0)
    simpa [dskC, Sh.setP] using this
  · exact ⟨f.n0, f.n1, f.lt, f.file, f.row, f.bd, f.len, f.inj, f.sep, f.mp0, f.mp1, f.mne, f.nam0, f.nam1, f.nd0, f.nd1, f.sz0, f.sz1, fun i hi => .inl (f.of i hi), fun i s k hi hk => .inl (f.or i s k hi hk), fun b hb => .inl (f.om0 b hb), fun b hb => .inl (f.om1 b hb)⟩
  · exact ⟨World.ownsRow_nil _ _ _ _, fun j hj => absurd hj (by simp), Nat.zero_le _, fun k hk => by cases hk⟩
  · intro k hk
    have hsz : (w.setCell ⟨S.g, 3, none⟩ (.slice none 0 0)).heap.size = w.heap.size := by simp [World.setCell]
    rw [hsz]
    rcases hk with hk | hk
    · exact h.sm k hk
    · cases hk
  · refine ⟨hg2.os.trans hf.os, hg2.tape.trans hf.tape, hg2.output.trans hf.output, Nat.le_trans hf.size hg2.size, fun k hk hn => ?_, hf.g, fun k hk => ?_⟩
    · rw [keep k (Nat.lt_of_lt_of_le hk hf.size) (fun ee => ?_), hf.frm k hk hn]
      rcases hf.own' S.g h.ds.og with h1 | h1
      · exact hn (ee ▸ h1)
      · omega
    · rcases hk with hk | hk
      · exact hf.own' k hk
      · cases hk
theorem crash_eq {d Di : Dk} {kl : List Bool} {rl : List Do} (h : { Di with wait := rl } = settledD d (fun i _ => kl.getD i false)) : crashD d kl = { Di with wait := [], off := false, cut := 0, l := Di.s, is := Di.su } := by
  unfold crashD
  rw [← h]
theorem CrB.fin {w wr : World} {S S2 Sk : Sh} {d Di Dj : Dk} {c e it : Nat} {left : Lit → Bool} (h : CrB w S S2 Di c e it left wr Sk Dj) (hl : ∀ k, left k = false) {kl : List Bool} {rl : List Do} (hcr : { Di with wait := rl } = settledD d (fun i _ => kl.getD i false)) :
    ∃ S', At (((wr.setCell ⟨S.g, 3, none⟩ (.slice none 0 0)).setCell ⟨S.g, 4, none⟩ (.int .i64 0)).setCell ⟨S.g, 5, none⟩ (.bool false)) S' (crashD d kl) c e ∧ Fr w (((wr.setCell ⟨S.g, 3, none⟩ (.slice none 0 0)).setCell ⟨S.g, 4, none⟩ (.int .i64 0)).setCell ⟨S.g, 5, none⟩ (.bool false)) S S' := by
  rw [crash_eq hcr]
  obtain ⟨a, fa⟩ := At.nopend h.hd h.fr
  have eg : Sk.g = S.g := h.fr.g
  rw [eg] at a fa
  generalize hw3 : wr.setCell ⟨S.g, 3, none⟩ (.slice none 0 0) = w3 at a fa ⊢
  have hb := a.ds.disk
  have hsg : (Sk.setP (.slice none 0 0) []).g = S.g := eg
  rw [hsg] at hb
  have hb4 := hb.put 4 (.int .i64 0)
  have hb5 := hb4.put 5 (.bool false)
  have hg4 := grown_set w3 S.g 4 (.int .i64 0)
  have hg5 := grown_set (w3.setCell ⟨S.g, 4, none⟩ (.int .i64 0)) S.g 5 (.bool false)
  have hg : w3.grownBy ((w3.setCell ⟨S.g, 4, none⟩ (.int .i64 0)).setCell ⟨S.g, 5, none⟩ (.bool false)) (some S.g) := ⟨hg5.os.trans hg4.os, hg5.tape.trans hg4.tape, hg5.output.trans hg4.output, Nat.le_trans hg4.size hg5.size, fun k hk hn => by rw [hg5.block k (Nat.lt_of_lt_of_le hk hg4.size) hn, hg4.block k hk hn]⟩
  obtain ⟨b, fb⟩ := At.cells a 0 false (by rw [hsg]; exact hg) (by rw [hsg]; simpa [dskC, Sh.setP] using hb5) ⟨by decide, by decide⟩
  have lv : ∀ x ∈ Di.s, Sk.live x.f := fun x hx => h.hd.fs.nam1 x (by rw [h.s]; exact hx)
  refine ⟨{ (Sk.setP (.slice none 0 0) []).setL 0 with live := fun i => Sk.live i ∧ ∃ x ∈ Di.s, x.f = i }, ⟨?_, ?_, ?_, b.sm⟩, fa.trans ⟨fb.os, fb.tape, fb.output, fb.size, fb.frm, fb.g, fb.own'⟩⟩
  · have hB := b.ds.disk
    refine ⟨?_, rfl, b.ds.lb, by rw [← h.rm]; exact b.ds.rb, b.ds.og⟩
    have e1 : dskC ((Sk.setP (.slice none 0 0) []).setL 0) ({ Dj with wait := [] }.setO false 0) = dskC ((Sk.setP (.slice none 0 0) []).setL 0) { Di with wait := [], off := false, cut := 0, l := Di.s, is := Di.su } := by simp [dskC, Dk.setO, h.rm]
    rw [e1] at hB
    exact hB
  · have hle := b.fs.less (fun i => Sk.live i ∧ ∃ x ∈ Di.s, x.f = i) (fun i hi => hi.1) (fun x hx => by
      have hx : x ∈ Di.s := by rw [← h.l]; exact hx
      exact ⟨lv x hx, x, hx, rfl⟩) (fun x hx => by
      have hx : x ∈ Di.s := by rw [← h.s]; exact hx
      exact ⟨lv x hx, x, hx, rfl⟩)
    refine hle.alike ?_ ?_ h.l.symm h.s.symm (fun i s hi => ?_)
    · show Di.su.length = Dj.is.length
      rw [← h.su, h.hd.fs.n1, h.hd.fs.n0]
    · show Di.su.length = Dj.su.length
      rw [h.su]
    · obtain ⟨_, x, hx, rfl⟩ := hi
      cases s
      · exact (h.is x hx (hl _)).symm
      · show Di.su.getD x.f [] = Dj.su.getD x.f []
        rw [h.su]
  · exact ⟨b.pn.pend, fun j hj => absurd hj (by simp), Nat.zero_le _, b.pn.op⟩
theorem map_is_blk {w : World} {b n : Nat} {D : DataW Unit} {k : TypeId} {R : Value → Option (DataW Unit × List MemPlace)} (h : w.ownsMap Try.prog k R b n D) : ∃ es cl, w.heap[b]? = some (.map es cl) := by
  obtain ⟨es, cl, hb, _⟩ := h
  exact ⟨es, cl, hb⟩
theorem CrB.step {w w1 : World} {S S2 Sk : Sh} {Di Dj : Dk} {c e it : Nat} {left left' : Lit → Bool} (h : CrB w S S2 Di c e it left w1 Sk Dj) (he : e ≤ 1099511627776) {x : ByteArray} {f : Nat} (hf : findD Di.s x = some f) {b n cnt : Nat} {D : DataW Unit} (hrg : w1.ranges Try.prog 9 ptrR b it n D left' cnt) :
    Calls Try.prog 47 #[Sk.row f true] w1.drew fun r w2 => ∃ a n' c', r = .returned (.slice a n' c') ∧ w2.frozen? ⟨S2.fb f, 0, none⟩ = false ∧ (∃ v, w2.cell? ⟨S2.fb f, 0, none⟩ = some v) ∧
      Hid (∃ Sk' Dj', (w2.setCell ⟨S2.fb f, 0, none⟩ (.slice a n' c')).ranges Try.prog 9 ptrR b it n D left' cnt ∧ CrB w S S2 Di c e it (fun z => left z && !z.sameKey (keyS x)) (w2.setCell ⟨S2.fb f, 0, none⟩ (.slice a n' c')) Sk' Dj') := by
  have h1 := h.drew
  have hlf := h.file hf
  have hrg1 : w1.drew.ranges Try.prog 9 ptrR b it n D left' cnt := hrg
  have hsu : Dj.of f true = Di.su.getD f [] := by rw [← h.su]; rfl
  have hrow := h1.hd.fs.row f true hlf
  have hfile := h1.hd.fs.file f hlf
  have hof := h1.hd.fs.of f hlf
  rw [h.fb] at hfile hof
  refine (clone_ok (Src.own hrow) (Nat.le_trans (h1.hd.fs.len f true hlf) he)).mono fun r w2 hr => ?_
  obtain ⟨v', rfl, hn⟩ := hr
  rw [hsu] at hn
  obtain ⟨a, c', hv⟩ := own_sl hn.1
  have hb2 := hfile.turn hn.2.1 (by simp)
  refine ⟨a, _, c', by rw [hv], hb2.frozen 0, ⟨_, hb2.cell 0⟩, Lib.hid ?_⟩
  rw [← hv]
  refine ⟨_, _, (hrg1.kept hn.2.1 (by simp) (by simp)).kept (grown_set _ _ _ _) (fun ee => ?_) (fun ee => ?_), h1.round hf hn⟩
  · injection ee with ee
    exact blk_not_map hfile (map_is_blk hrg1.owns) ee.symm
  · injection ee with ee
    rw [← ee] at hof
    exact h.no hof
end Go.Proofs.Ythogdieplfpopaa
