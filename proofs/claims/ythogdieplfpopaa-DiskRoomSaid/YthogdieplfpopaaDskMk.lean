/-
  What is proved here: create, write, rename, remove of package disk.
  Conditions: none.
-/
import Derived.Test.YthogdieplfpopaaDskSame
namespace Go.Proofs.Ythogdieplfpopaa
open Go.RowKit Go.WideMaps Go.Maps
set_option linter.unusedVariables false
set_option linter.unusedSimpArgs false

def MkPost (w : World) (S : Sh) (d : Dk) (c e : Nat) (r : Ending) (w' : World) : Prop := r = .returned (.tuple #[]) ∧ ∃ S', At w' S' d c e ∧ Fr w w' S S' ∧ S'.left = S.left
theorem at_add {w : World} {S : Sh} {d : Dk} {c e : Nat} {o : Do} {c0 c1 : Value} (h : At w S d c e) (ho : OpAt w S e o c0 c1) (hc : c < 1099511627776) (he : e ≤ 1099511627776) :
    Calls Try.prog 78 #[ptrV S.g, c0, c1] w (MkPost w S (waitD d o) (c + 1) e) :=
  (add_ok h.hd h.pn ho hc he).mono fun r w' ⟨h1, S', h2, h3, h4, h5, h6⟩ => ⟨h1, S', h2, h3, h6⟩
theorem MkPost.after {w w1 : World} {S S1 : Sh} {d : Dk} {c e : Nat} (hf : Fr w w1 S S1) (hl : S1.left = S.left) : ∀ {r : Ending} {w' : World}, MkPost w1 S1 d c e r w' → MkPost w S d c e r w' :=
  fun {r w'} ⟨h1, S', h2, h3, h4⟩ => ⟨h1, S', h2, hf.trans h3, h4.trans hl⟩
theorem al_size (w : World) (o : Obj) : (w.alloc o).heap.size = w.heap.size + 1 := by simp
theorem al_grown (w w1 : World) (o : Obj) (h : w.grownBy w1 none) : w.grownBy (w1.alloc o) none :=
  ⟨h.os, h.tape, h.output, by have := h.size; simp; omega, fun k hk hn => by rw [Below.heap_alloc _ _ _ (Nat.lt_of_lt_of_le hk h.size)]; exact h.block k hk hn⟩
theorem gr_refl (w : World) : w.grownBy w none := ⟨rfl, rfl, rfl, Nat.le_refl _, fun _ _ _ => rfl⟩
theorem Blk.newAt {w : World} {g : Nat} (C : Array Value) (t : TypeId) (hg : g = w.heap.size) : Blk (w.alloc (.cells C t)) g C t := by subst hg; exact Blk.new w C t
set_option maxHeartbeats 1600000 in
theorem remove_ok {w : World} {S : Sh} {d : Dk} {c e : Nat} (h : At w S d c e) {x : ByteArray} (hx : x.size ≤ maxLen) (hc : c < 1099511627776) (he : e ≤ 1099511627776) :
    Calls Try.prog 61 #[ptrV S.g, .string x] w (MkPost w S (waitD d ⟨4, 0, 0, [], x, .empty⟩) (c + 1) e) := by
  have s1 := al_size w (.cells #[ptrV S.g] 24)
  have s2 := al_size (w.alloc (.cells #[ptrV S.g] 24)) (.cells #[.string x] 9)
  have hg := al_grown w _ (.cells #[.string x] 9) (al_grown w w (.cells #[ptrV S.g] 24) (gr_refl w))
  have h2 := ((h.alloc (.cells #[ptrV S.g] 24)).alloc (.cells #[.string x] 9)).take (fun k => w.heap.size ≤ k ∧ k < w.heap.size + 2) (fun k hk => by omega)
  have ho : OpAt ((w.alloc (.cells #[ptrV S.g] 24)).alloc (.cells #[.string x] 9)) (S.take (fun k => w.heap.size ≤ k ∧ k < w.heap.size + 2)) e ⟨4, 0, 0, [], x, .empty⟩ (.pointer none) (.func (.func 85) #[] #[ptrV w.heap.size, ptrV (w.heap.size + 1)]) :=
    .inr (.inr (.inr ⟨rfl, rfl, _, _, rfl, (Blk.new _ _ _).alloc _, Blk.newAt _ _ (by omega), .inr ⟨by omega, by omega⟩, .inr ⟨by omega, by omega⟩, hx⟩))
  have HA := Lib.hid ((at_add h2 ho hc he).mono fun r w' hr => hr.after (S := S) (w := w) (Fr.grown hg (fun _ h => by cases h) _ (fun k hk => hk.1)) rfl)
  clear h h2 ho hg s1 s2 hx
  have eg : (S.take (fun k => w.heap.size ≤ k ∧ k < w.heap.size + 2)).g = S.g := rfl
  rw [eg] at HA
  clear eg
  unfold ptrV at *
  go_enter Try.func61, Try.ntmps61
  go_wp2_with fail
  refine HA.out.mono ?_
  rintro r w' ⟨rfl, hS⟩
  have HS := Lib.hid hS
  clear hS
  go_wp2
  go_end0
  exact ⟨rfl, HS.out⟩
set_option maxHeartbeats 1600000 in
theorem rename_ok {w : World} {S : Sh} {d : Dk} {c e : Nat} (h : At w S d c e) {x y : ByteArray} (hx : x.size ≤ maxLen) (hy : y.size ≤ maxLen) (hc : c < 1099511627776) (he : e ≤ 1099511627776) :
    Calls Try.prog 58 #[ptrV S.g, .string x, .string y] w (MkPost w S (waitD d ⟨3, 0, 0, [], x, y⟩) (c + 1) e) := by
  have s1 := al_size w (.cells #[ptrV S.g] 24)
  have s2 := al_size (w.alloc (.cells #[ptrV S.g] 24)) (.cells #[.string x] 9)
  have s3 := al_size ((w.alloc (.cells #[ptrV S.g] 24)).alloc (.cells #[.string x] 9)) (.cells #[.string y] 9)
  have hg := al_grown w _ (.cells #[.string y] 9) (al_grown w _ (.cells #[.string x] 9) (al_grown w w (.cells #[ptrV S.g] 24) (gr_refl w)))
  have h2 := (((h.alloc (.cells #[ptrV S.g] 24)).alloc (.cells #[.string x] 9)).alloc (.cells #[.string y] 9)).take (fun k => w.heap.size ≤ k ∧ k < w.heap.size + 3) (fun k hk => by omega)
  have ho : OpAt (((w.alloc (.cells #[ptrV S.g] 24)).alloc (.cells #[.string x] 9)).alloc (.cells #[.string y] 9)) (S.take (fun k => w.heap.size ≤ k ∧ k < w.heap.size + 3)) e ⟨3, 0, 0, [], x, y⟩ (.pointer none) (.func (.func 84) #[] #[ptrV w.heap.size, ptrV (w.heap.size + 1), ptrV (w.heap.size + 1 + 1)]) :=
    .inr (.inr (.inl ⟨rfl, rfl, _, _, _, rfl, ((Blk.new _ _ _).alloc _).alloc _, (Blk.newAt _ _ (by omega)).alloc _, Blk.newAt _ _ (by omega), .inr ⟨by omega, by omega⟩, .inr ⟨by omega, by omega⟩, .inr ⟨by omega, by omega⟩, hx, hy⟩))
  have HA := Lib.hid ((at_add h2 ho hc he).mono fun r w' hr => hr.after (S := S) (w := w) (Fr.grown hg (fun _ h => by cases h) _ (fun k hk => hk.1)) rfl)
  clear h h2 ho hg s1 s2 s3 hx hy
  have eg : (S.take (fun k => w.heap.size ≤ k ∧ k < w.heap.size + 3)).g = S.g := rfl
  rw [eg] at HA
  clear eg
  unfold ptrV at *
  go_enter Try.func58, Try.ntmps58
  go_wp2_with fail
  refine HA.out.mono ?_
  rintro r w' ⟨rfl, hS⟩
  have HS := Lib.hid hS
  clear hS
  go_wp2
  go_end0
  exact ⟨rfl, HS.out⟩
set_option maxHeartbeats 1600000 in
theorem write_ok {w : World} {S : Sh} {d : Dk} {c e : Nat} (h : At w S d c e) {f p : Nat} {b : List Int} {a : Option Addr} {cap : Nat} (hf : S.live f) (hob : w.ownsRow 0 5 1 (.slice a b.length cap) b.length (u8V b)) (hbd : ∀ n ∈ b, 0 ≤ n ∧ n ≤ 255)
    (hno : ∀ k, (Value.slice a b.length cap).ownBlock = some k → ¬ S.own k) (P : Nat → Prop) (hP : ∀ k, (Value.slice a b.length cap).ownBlock = some k → P k) (hpe : p + b.length ≤ e) (hc : c < 1099511627776) (he : e ≤ 1099511627776)
    (w0 : World) (S0 : Sh) (hP0 : ∀ k, P k → w0.heap.size ≤ k ∧ k < w.heap.size) (hf0 : Fr w0 w S0 S) (hl0 : S.left = S0.left) :
    Calls Try.prog 46 #[ptrV S.g, ptrV (S.fb f), .int .i64 p, .slice a b.length cap] w (MkPost w0 S0 (waitD d ⟨1, f, p, b, .empty, .empty⟩) (c + 1) e) := by
  have s1 := al_size w (.cells #[ptrV (S.fb f)] 73)
  have s2 := al_size (w.alloc (.cells #[ptrV (S.fb f)] 73)) (.cells #[.int .i64 p] 3)
  have s3 := al_size ((w.alloc (.cells #[ptrV (S.fb f)] 73)).alloc (.cells #[.int .i64 p] 3)) (.cells #[.slice a b.length cap] 32)
  have hg := al_grown w _ (.cells #[.slice a b.length cap] 32) (al_grown w _ (.cells #[.int .i64 p] 3) (al_grown w w (.cells #[ptrV (S.fb f)] 73) (gr_refl w)))
  have hsz0 := hf0.size
  have h2 := (((h.alloc (.cells #[ptrV (S.fb f)] 73)).alloc (.cells #[.int .i64 p] 3)).alloc (.cells #[.slice a b.length cap] 32)).take (fun k => P k ∨ (w.heap.size ≤ k ∧ k < w.heap.size + 3)) (fun k hk => by
    rcases hk with hk | hk
    · have := hP0 k hk; omega
    · omega)
  have ho : OpAt (((w.alloc (.cells #[ptrV (S.fb f)] 73)).alloc (.cells #[.int .i64 p] 3)).alloc (.cells #[.slice a b.length cap] 32)) (S.take (fun k => P k ∨ (w.heap.size ≤ k ∧ k < w.heap.size + 3))) e ⟨1, f, p, b, .empty, .empty⟩ (ptrV (S.fb f)) (.func (.func 81) #[] #[ptrV w.heap.size, ptrV (w.heap.size + 1), ptrV (w.heap.size + 1 + 1)]) := by
    refine .inl ⟨rfl, rfl, _, _, _, cap, a, rfl, ((Blk.new _ _ _).alloc _).alloc _, (Blk.newAt _ _ (by omega)).alloc _, Blk.newAt _ _ (by omega), ((hob.alloc _).alloc _).alloc _, hbd, .inr (.inr ⟨by omega, by omega⟩), .inr (.inr ⟨by omega, by omega⟩), .inr (.inr ⟨by omega, by omega⟩), fun k hk => .inr (.inl (hP k hk)), ?_, hpe, hf⟩
    intro i s k hi hk hr
    exact hno k hk (h.fs.or i s k hi hr)
  have hfr : Fr w0 (((w.alloc (.cells #[ptrV (S.fb f)] 73)).alloc (.cells #[.int .i64 p] 3)).alloc (.cells #[.slice a b.length cap] 32)) S0 (S.take (fun k => P k ∨ (w.heap.size ≤ k ∧ k < w.heap.size + 3))) :=
    ⟨hg.os.trans hf0.os, hg.tape.trans hf0.tape, hg.output.trans hf0.output, by omega, fun k hk hn => by rw [hg.block k (by omega) (by simp)]; exact hf0.frm k hk hn, hf0.g, fun k hk => by
      rcases hk with hk | hk | hk
      · exact hf0.own' k hk
      · exact .inr (hP0 k hk).1
      · exact .inr (by omega)⟩
  have HA := Lib.hid ((at_add h2 ho hc he).mono fun r w' hr => hr.after hfr hl0)
  clear h h2 ho hg s1 s2 s3 hf hob hbd hno hP hpe hP0 hf0 hl0 hfr hsz0
  have eg : (S.take (fun k => P k ∨ (w.heap.size ≤ k ∧ k < w.heap.size + 3))).g = S.g := rfl
  rw [eg] at HA
  clear eg
  generalize b.length = bl at *
  unfold ptrV at *
  go_enter Try.func46, Try.ntmps46
  go_wp2_with fail
  refine HA.out.mono ?_
  rintro r w' ⟨rfl, hS⟩
  have HS := Lib.hid hS
  clear hS
  go_wp2
  go_end0
  exact ⟨rfl, HS.out⟩
set_option maxHeartbeats 3200000 in
theorem create_ok {w : World} {S : Sh} {d : Dk} {c e : Nat} (h : At w S d c e) {x : ByteArray} (hx : x.size ≤ maxLen) (hc : c < 1099511627776) (he : e ≤ 1099511627776) :
    Calls Try.prog 42 #[ptrV S.g, .string x] w (MkPost w S (waitD { d with is := d.is ++ [[]], su := d.su ++ [[]] } ⟨2, d.is.length, 0, [], .empty, x⟩) (c + 1) e) := by
  obtain ⟨w1, e1⟩ : ∃ w1, w1 = w.alloc (.cells #[ptrV S.g] 24) := ⟨_, rfl⟩
  obtain ⟨w2, e2⟩ : ∃ w2, w2 = w1.alloc (.cells #[.string x] 9) := ⟨_, rfl⟩
  obtain ⟨w3, e3⟩ : ∃ w3, w3 = w2.alloc (.cells #[.slice none 0 0, .slice none 0 0] 88) := ⟨_, rfl⟩
  obtain ⟨w4, e4⟩ : ∃ w4, w4 = w3.alloc (.cells #[ptrV (w.heap.size + 1 + 1)] 73) := ⟨_, rfl⟩
  have s1 : w1.heap.size = w.heap.size + 1 := by rw [e1]; exact al_size _ _
  have s2 : w2.heap.size = w.heap.size + 1 + 1 := by rw [e2, al_size, s1]
  have s3 : w3.heap.size = w.heap.size + 1 + 1 + 1 := by rw [e3, al_size, s2]
  have s4 : w4.heap.size = w.heap.size + 1 + 1 + 1 + 1 := by rw [e4, al_size, s3]
  have hg : w.grownBy w4 none := by rw [e4, e3, e2, e1]; exact al_grown _ _ _ (al_grown _ _ _ (al_grown _ _ _ (al_grown _ _ _ (gr_refl w))))
  have h4 : At w4 S d c e := by rw [e4, e3, e2, e1]; exact (((h.alloc _).alloc _).alloc _).alloc _
  have b1 : Blk w4 w.heap.size #[ptrV S.g] 24 := by rw [e4, e3, e2, e1]; exact (((Blk.new _ _ _).alloc _).alloc _).alloc _
  have b2 : Blk w4 (w.heap.size + 1) #[.string x] 9 := by rw [e4, e3, e2]; exact ((Blk.newAt _ _ s1.symm).alloc _).alloc _
  have b3 : Blk w4 (w.heap.size + 1 + 1) #[.slice none 0 0, .slice none 0 0] 88 := by rw [e4, e3]; exact (Blk.newAt _ _ s2.symm).alloc _
  have b4 : Blk w4 (w.heap.size + 1 + 1 + 1) #[ptrV (w.heap.size + 1 + 1)] 73 := by rw [e4]; exact Blk.newAt _ _ s3.symm
  have h5 := (h4.file b3 (fun hk => by have := h.sm _ hk; omega)).take (fun k => w.heap.size ≤ k ∧ k < w.heap.size + 4) (fun k hk => by omega)
  have n0 := h.fs.n0
  have hfb : ((S.file (w.heap.size + 1 + 1)).take (fun k => w.heap.size ≤ k ∧ k < w.heap.size + 4)).fb d.is.length = w.heap.size + 1 + 1 := by
    have := file_fb S (w.heap.size + 1 + 1) d.is.length
    rw [if_pos n0] at this
    exact this
  have ho : OpAt w4 ((S.file (w.heap.size + 1 + 1)).take (fun k => w.heap.size ≤ k ∧ k < w.heap.size + 4)) e ⟨2, d.is.length, 0, [], .empty, x⟩ (.pointer none) (.func (.func 79) #[] #[ptrV w.heap.size, ptrV (w.heap.size + 1), ptrV (w.heap.size + 1 + 1 + 1)]) := by
    refine .inr (.inl ⟨rfl, rfl, _, _, _, rfl, b1, b2, ?_, .inr ⟨by omega, by omega⟩, .inr ⟨by omega, by omega⟩, .inr ⟨by omega, by omega⟩, .inr n0, hx⟩)
    rw [hfb]; exact b4
  have hfr : Fr w w4 S ((S.file (w.heap.size + 1 + 1)).take (fun k => w.heap.size ≤ k ∧ k < w.heap.size + 4)) :=
    ⟨hg.os, hg.tape, hg.output, hg.size, fun k hk hn => hg.block k hk (by simp), rfl, fun k hk => by
      rcases hk with (hk | hk) | hk
      · exact .inl hk
      · exact .inr (by omega)
      · exact .inr hk.1⟩
  have hA := (at_add h5 ho hc he).mono fun r w' hr => hr.after (S := S) (w := w) hfr rfl
  rw [e4, e3, e2, e1] at hA
  have HA := Lib.hid hA
  clear hA hfr ho hfb n0 h5 b1 b2 b3 b4 h4 hg s1 s2 s3 s4 e4 e3 e2 e1 h hx
  have eg : ((S.file (w.heap.size + 1 + 1)).take (fun k => w.heap.size ≤ k ∧ k < w.heap.size + 4)).g = S.g := rfl
  rw [eg] at HA
  clear eg
  generalize d.is.length = dl at *
  unfold ptrV at *
  go_enter Try.func42, Try.ntmps42
  go_wp2_with fail
  refine HA.out.mono ?_
  rintro r w' ⟨rfl, hS⟩
  have HS := Lib.hid hS
  clear hS
  go_wp2
  go_end0
  exact ⟨rfl, HS.out⟩
end Go.Proofs.Ythogdieplfpopaa
