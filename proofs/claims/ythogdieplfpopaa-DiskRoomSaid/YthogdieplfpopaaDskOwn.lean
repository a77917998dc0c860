/-
  What is proved here: a disk of the call's own: its calls as steps from plain words to plain words.
  Conditions: none.
-/
import Derived.Test.YthogdieplfpopaaDskA
import Derived.Test.YthogdieplfpopaaDskCr5
import Derived.Test.YthogdieplfpopaaDskNew
import Derived.Test.YthogdieplfpopaaDskNms
import Derived.Test.YthogdieplfpopaaDskNil
namespace Go.Proofs.Ythogdieplfpopaa
open Go.RowKit Go.WideMaps Go.Maps
set_option linter.unusedVariables false
set_option linter.unusedSimpArgs false

/-- What is kept of all blocks that are not P's. -/
structure KP (P : Nat → Prop) (w w' : World) : Prop where
  os : w'.os = w.os
  tape : w'.tape = w.tape
  output : w'.output = w.output
  size : w.heap.size ≤ w'.heap.size
  keep : ∀ k, k < w.heap.size → ¬ P k → w'.heap[k]? = w.heap[k]?
theorem KP.refl (P : Nat → Prop) (w : World) : KP P w w := ⟨rfl, rfl, rfl, Nat.le_refl _, fun _ _ _ => rfl⟩
theorem KP.trans {P : Nat → Prop} {w w' w'' : World} (h : KP P w w') (h' : KP P w' w'') : KP P w w'' :=
  ⟨h'.os.trans h.os, h'.tape.trans h.tape, h'.output.trans h.output, Nat.le_trans h.size h'.size, fun k hk hn => by rw [h'.keep k (Nat.lt_of_lt_of_le hk h.size) hn, h.keep k hk hn]⟩
theorem KP.weak {P Q : Nat → Prop} {w w' : World} (h : KP P w w') (hq : ∀ k, P k → Q k) : KP Q w w' := ⟨h.os, h.tape, h.output, h.size, fun k hk hn => h.keep k hk (fun hp => hn (hq k hp))⟩
theorem KP.below {P : Nat → Prop} {w w' : World} (h : KP P w w') {B : Nat} (hB : B ≤ w.heap.size) (hP : ∀ k, P k → B ≤ k) : Below B w w' := ⟨h.os, h.tape, h.output, h.size, fun k hk => h.keep k (by omega) (fun hp => by have := hP k hp; omega)⟩
theorem KP.of_below {P : Nat → Prop} {w w' : World} {B : Nat} (h : Below B w w') (hP : ∀ k, B ≤ k → P k) : KP P w w' := ⟨h.os, h.tape, h.output, h.size, fun k hk hn => h.block k (by
  rcases Nat.lt_or_ge k B with h1 | h1
  · exact h1
  · exact absurd (hP k h1) hn)⟩
theorem KP.grown {P : Nat → Prop} {w w' : World} {row : Option Nat} (h : w.grownBy w' row) (hr : ∀ k, row = some k → P k) : KP P w w' := ⟨h.os, h.tape, h.output, h.size, fun k hk hn => h.block k hk (fun e => hn (hr k e.symm))⟩
/-- A disk that owns blocks of P alone; what is to come is P's too. -/
def Dw (P : Nat → Prop) (g : Nat) (w : World) (d : Dk) (c e : Nat) : Prop := ∃ S, At w S d c e ∧ S.g = g ∧ (∀ k, S.own k → P k) ∧ ∀ k, w.heap.size ≤ k → P k
theorem Dw.step {P : Nat → Prop} {g : Nat} {w w' : World} {S S' : Sh} {d' : Dk} {c' e' : Nat} (hg : S.g = g) (ho : ∀ k, S.own k → P k) (hf : ∀ k, w.heap.size ≤ k → P k) (h' : At w' S' d' c' e') (fr : Fr w w' S S') : Dw P g w' d' c' e' ∧ KP P w w' :=
  ⟨⟨S', h', fr.g.trans hg, fun k hk => by
    rcases fr.own' k hk with h1 | h1
    · exact ho k h1
    · exact hf k h1, fun k hk => hf k (Nat.le_trans fr.size hk)⟩, fr.os, fr.tape, fr.output, fr.size, fun k hk hn => fr.frm k hk (fun h1 => hn (ho k h1))⟩
/-- Elsewhere something turns, or is made. -/
theorem Dw.other {P : Nat → Prop} {g : Nat} {w w' : World} {d : Dk} {c e : Nat} {row : Option Nat} (h : Dw P g w d c e) (hg : w.grownBy w' row) (hr : ∀ k, row = some k → ¬ P k) : Dw P g w' d c e := by
  obtain ⟨S, a, b, o, f⟩ := h
  exact ⟨S, a.grown hg (fun k hk h1 => hr k hk (o k h1)), b, o, fun k hk => f k (Nat.le_trans hg.size hk)⟩
theorem Dw.drew {P : Nat → Prop} {g : Nat} {w : World} {d : Dk} {c e : Nat} (h : Dw P g w d c e) : Dw P g w.drew d c e := by
  obtain ⟨S, a, b, o, f⟩ := h
  exact ⟨S, a.drew, b, o, f⟩
theorem Dw.weak {P Q : Nat → Prop} {g : Nat} {w : World} {d : Dk} {c e : Nat} (h : Dw P g w d c e) (hq : ∀ k, P k → Q k) : Dw Q g w d c e := by
  obtain ⟨S, a, b, o, f⟩ := h
  exact ⟨S, a, b, fun k hk => hq k (o k hk), fun k hk => hq k (f k hk)⟩
theorem Dw.up {P : Nat → Prop} {g : Nat} {w : World} {d : Dk} {c c' e e' : Nat} (h : Dw P g w d c e) (hc : c ≤ c') (he : e ≤ e') : Dw P g w d c' e' := by
  obtain ⟨S, a, b, o, f⟩ := h
  exact ⟨S, a.up2 hc he, b, o, f⟩
/-- What was made since is another's. -/
def But (P : Nat → Prop) (w w' : World) (k : Nat) : Prop := P k ∧ (k < w.heap.size ∨ w'.heap.size ≤ k)
theorem Dw.made {P : Nat → Prop} {g : Nat} {w w' : World} {d : Dk} {c e : Nat} (h : Dw P g w d c e) (hg : w.grownBy w' none) : Dw (But P w w') g w' d c e := by
  obtain ⟨S, a, b, o, f⟩ := h
  exact ⟨S, a.grown hg (fun k hk => by cases hk), b, fun k hk => ⟨o k hk, .inl (a.sm k hk)⟩, fun k hk => ⟨f k (Nat.le_trans hg.size hk), .inr hk⟩⟩
theorem But.weak {P : Nat → Prop} {w w' : World} (k : Nat) (h : But P w w' k) : P k := h.1
/-- Bytes of another's. -/
def Oth (P : Nat → Prop) (w : World) (v : Value) (zs : List Int) : Prop := (∀ n ∈ zs, 0 ≤ n ∧ n ≤ 255) ∧ ((v = .slice none 0 0 ∧ zs = []) ∨ ∃ ad cap, v = .slice (some ad) zs.length cap ∧ (zs ≠ [] → ad.block < w.heap.size ∧ ¬ P ad.block) ∧ ∀ j u, (u8V zs)[j]? = some u → w.cell? (ad.add j) = some u)
theorem Oth.keep {P Q : Nat → Prop} {w w' : World} {v : Value} {zs : List Int} (h : Oth P w v zs) (hk : KP Q w w') (hq : ∀ k, Q k → P k) : Oth P w' v zs := by
  refine ⟨h.1, ?_⟩
  rcases h.2 with h | ⟨ad, cap, h1, h2, h3⟩
  · exact .inl h
  · refine .inr ⟨ad, cap, h1, fun hz => ⟨Nat.lt_of_lt_of_le (h2 hz).1 hk.size, (h2 hz).2⟩, fun j u hj => ?_⟩
    have hz : zs ≠ [] := fun e => by rw [e] at hj; cases hj
    have hc := h3 j u hj
    rw [World.cell?_of_block (hk.keep _ (World.block_lt_of_cell? w _ hc) (by rw [add_block]; exact fun hp => (h2 hz).2 (hq _ hp)))]
    exact hc
theorem Oth.weak {P Q : Nat → Prop} {w : World} {v : Value} {zs : List Int} (h : Oth P w v zs) (hq : ∀ k, Q k → P k) : Oth Q w v zs := by
  refine ⟨h.1, ?_⟩
  rcases h.2 with h | ⟨ad, cap, h1, h2, h3⟩
  · exact .inl h
  · exact .inr ⟨ad, cap, h1, fun hz => ⟨(h2 hz).1, fun hp => (h2 hz).2 (hq _ hp)⟩, h3⟩
theorem Oth.ext {P : Nat → Prop} {w : World} {S : Sh} {v : Value} {zs : List Int} (h : Oth P w v zs) (ho : ∀ k, S.own k → P k) : Ext w S v zs := by
  rcases h.2 with h | ⟨ad, cap, h1, h2, h3⟩
  · exact .inl h
  · exact .inr ⟨ad, cap, h1, fun hz h4 => (h2 hz).2 (ho _ h4), h3⟩
theorem Oth.conv {P : Nat → Prop} {w : World} {v : Value} {zs : List Int} (h : Oth P w v zs) : (convert 32 9 v).run Try.prog w = .ok (.string (strOfNums zs)) w := by
  rcases h.2 with ⟨rfl, rfl⟩ | ⟨⟨b, off, spot⟩, cap, rfl, h2, h3⟩
  · exact (Bys.empty w 0 none).conv 0
  · refine Bys.conv (B := w.heap.size) ⟨rfl, h.1, fun h0 => ?_⟩ cap
    have hz : zs ≠ [] := fun e => by rw [e] at h0; cases h0
    have hc : ∀ i, i < zs.length → w.cell? ((⟨b, off, spot⟩ : Addr).add i) = some (.int .u8 (zs.getD i 0)) := fun i hi => h3 i _ (by
      unfold u8V
      rw [List.getElem?_map, List.getElem?_eq_getElem hi, Option.map_some, List.getD_eq_getElem?_getD, List.getElem?_eq_getElem hi]; rfl)
    have hs : spot = none := by simpa [Addr.add] using World.cell?_spot (hc 0 h0)
    subst hs
    exact ⟨b, off, rfl, (h2 hz).1, fun i hi => by have := hc i hi; rwa [add_none] at this⟩
theorem Oth.row {w : World} {a : Option Addr} {len cap : Nat} {zs : List Int} (h : IsRow .u8 w a len cap zs) : Oth (fun k => w.heap.size ≤ k) w (.slice a len cap) (zs.take len) := by
  have hb := h.bys.1
  refine ⟨hb.2.1, ?_⟩
  rcases h with ⟨rfl, rfl, rfl, rfl⟩ | ⟨x, rfl, hl, hm, hz, hc, hw⟩
  · exact .inl ⟨rfl, rfl⟩
  · refine .inr ⟨x, cap, by rw [hb.1], fun hne => ?_, fun j u hj => ?_⟩
    · have h0 : 0 < len := Nat.pos_of_ne_zero (fun e => hne (by rw [e]; rfl))
      have := World.block_lt_of_cell? w _ (hc 0 (by omega))
      rw [add_block] at this
      exact ⟨this, by omega⟩
    · unfold u8V at hj
      rw [List.getElem?_map] at hj
      by_cases hjl : j < len
      · rw [List.getElem?_take_of_lt hjl, List.getElem?_eq_getElem (by omega), Option.map_some] at hj
        injection hj with hj
        rw [← hj, hc j (by omega), List.getD_eq_getElem?_getD, List.getElem?_eq_getElem (by omega)]; rfl
      · rw [List.getElem?_eq_none (by rw [List.length_take]; omega)] at hj
        cases hj
/-- Behind a read: the bytes that came are another's. -/
theorem Oth.new {P : Nat → Prop} {w w' : World} {v : Value} {zs : List Int} (h : New1 w w' v zs) (hb : ∀ n ∈ zs, 0 ≤ n ∧ n ≤ 255) : Oth (But P w w') w' v zs := by
  refine ⟨hb, ?_⟩
  have hs := Src.own h.1
  rcases hs with hs | ⟨ad, cap, h1, h3⟩
  · exact .inl hs
  · refine .inr ⟨ad, cap, h1, fun hz => ?_, h3⟩
    have hlt : ad.block < w'.heap.size := by
      have := h3 0 (.int .u8 (zs.getD 0 0)) (by
        cases zs with
        | nil => exact absurd rfl hz
        | cons a r => rfl)
      have := World.block_lt_of_cell? w' _ this
      rwa [add_block] at this
    have hge : w.heap.size ≤ ad.block := by
      rcases h.1.2 with ⟨e1, e0⟩ | ⟨gb, cp, cur, e1, _⟩
      · exact absurd (List.eq_nil_of_length_eq_zero e0) hz
      · have e2 := e1
        rw [h1] at e2
        injection e2 with e2 _ _
        injection e2 with e2
        rw [e2]
        exact h.2.2 gb (by rw [e1]; rfl)
    exact ⟨hlt, fun hp => by rcases hp.2 with h5 | h5 <;> omega⟩
/-! ### the calls -/
section
variable {P : Nat → Prop} {g : Nat} {w : World} {d : Dk} {c e : Nat}
def DPost (P : Nat → Prop) (g : Nat) (w : World) (d : Dk) (er : Int) (c e : Nat) (r : Ending) (w' : World) : Prop := r = .returned (.int .i64 er) ∧ Dw P g w' d c e ∧ KP P w w'
theorem Dw.of_op {S : Sh} {dd : Dk × Int} {d' : Dk} {er : Int} {c' e' n : Nat} {args : Array Value} (hd : dd = (d', er)) (hg : S.g = g) (ho : ∀ k, S.own k → P k) (hf : ∀ k, w.heap.size ≤ k → P k) (h : Calls Try.prog n args w (OpPost w S dd c' e')) : Calls Try.prog n args w (DPost P g w d' er c' e') := by
  subst hd
  refine h.mono fun r w' hr => ?_
  obtain ⟨rfl, S', h1, h2⟩ := hr
  exact ⟨rfl, Dw.step hg ho hf h1 h2⟩
theorem Dw.create (h : Dw P g w d c e) {x : ByteArray} (hx : x.size ≤ maxLen) (hc : c < 1099511627776) (he : e ≤ 1099511627776) {d' : Dk} {er : Int} (hd : doD d 1 x .empty 0 [] = (d', er)) : Calls Try.prog 14 #[ptrV g, .string x] w (DPost P g w d' er (c + 1) e) := by
  obtain ⟨S, a, rfl, o, f⟩ := h
  exact Dw.of_op hd rfl o f (Create_ok a hx hc he)
theorem Dw.remove (h : Dw P g w d c e) {x : ByteArray} (hx : x.size ≤ maxLen) (hc : c < 1099511627776) (he : e ≤ 1099511627776) {d' : Dk} {er : Int} (hd : doD d 5 x .empty 0 [] = (d', er)) : Calls Try.prog 22 #[ptrV g, .string x] w (DPost P g w d' er (c + 1) e) := by
  obtain ⟨S, a, rfl, o, f⟩ := h
  exact Dw.of_op hd rfl o f (Remove_ok a hx hc he)
theorem Dw.rename (h : Dw P g w d c e) {x y : ByteArray} (hx : x.size ≤ maxLen) (hy : y.size ≤ maxLen) (hc : c < 1099511627776) (he : e ≤ 1099511627776) {d' : Dk} {er : Int} (hd : doD d 4 x y 0 [] = (d', er)) : Calls Try.prog 21 #[ptrV g, .string x, .string y] w (DPost P g w d' er (c + 1) e) := by
  obtain ⟨S, a, rfl, o, f⟩ := h
  exact Dw.of_op hd rfl o f (Rename_ok a hx hy hc he)
theorem Dw.sync (h : Dw P g w d c e) {x : ByteArray} (hx : x.size ≤ maxLen) (hc : c + d.wait.length < 1099511627776) (he : e ≤ 1099511627776) {d' : Dk} {er : Int} (hd : doD d 3 x .empty 0 [] = (d', er)) : Calls Try.prog 16 #[ptrV g, .string x] w (DPost P g w d' er (c + d.wait.length) e) := by
  obtain ⟨S, a, rfl, o, f⟩ := h
  exact Dw.of_op hd rfl o f (Sync_ok a hx hc he)
theorem Dw.syncNames (h : Dw P g w d c e) (hc : c + d.wait.length < 1099511627776) (he : e ≤ 1099511627776) {d' : Dk} {er : Int} (hd : doD d 6 .empty .empty 0 [] = (d', er)) : Calls Try.prog 17 #[ptrV g] w (DPost P g w d' er (c + d.wait.length) e) := by
  obtain ⟨S, a, rfl, o, f⟩ := h
  exact Dw.of_op hd rfl o f (SyncNames_ok a hc he)
theorem Dw.write (h : Dw P g w d c e) {x : ByteArray} {p : Int} {bl : List Int} {bv : Value} (hx : x.size ≤ maxLen) (hb : Oth P w bv bl) (hU : usedD d < 4611686018427387904) (hp0 : -9223372036854775808 ≤ p) (hp1 : p ≤ 9223372036854775807) (hc : c < 1099511627776) (he : e + bl.length ≤ 1099511627776) {d' : Dk} {er : Int} (hd : doD d 2 x .empty p bl = (d', er)) :
    Calls Try.prog 15 #[ptrV g, .string x, .int .i64 p, bv] w (DPost P g w d' er (c + 1) (e + bl.length)) := by
  obtain ⟨S, a, rfl, o, f⟩ := h
  exact Dw.of_op hd rfl o f (Write_ok a hx (hb.ext o) hb.1 hU (sizes_nonneg d.is d.l) hp0 hp1 hc he)
theorem Dw.crash (h : Dw P g w d c e) {kv : Value} (kl : List Bool) (hkv : ∀ S, (∀ k, S.own k → P k) → KeepIs w S kv kl) (hc : c + d.wait.length < 1099511627776) (he : e ≤ 1099511627776) (hkl : kl.length ≤ 1099511627776) {d' : Dk} (hd : crashD d kl = d') :
    Calls Try.prog 18 #[ptrV g, kv] w fun r w' => r = .returned (.tuple #[]) ∧ Dw P g w' d' (c + d.wait.length) e ∧ KP P w w' := by
  subst hd
  obtain ⟨S, a, rfl, o, f⟩ := h
  refine (Crash_ok a kl (hkv S o) hc he hkl).mono fun r w' hr => ?_
  obtain ⟨rfl, S', h1, h2⟩ := hr
  exact ⟨rfl, Dw.step rfl o f h1 h2⟩
theorem Dw.cut (h : Dw P g w d c e) (n : Int) (hn : -9223372036854775808 ≤ n ∧ n ≤ 9223372036854775807) {d' : Dk} (hd : cutD d n = d') :
    Calls Try.prog 20 #[ptrV g, .int .i64 n] w fun r w' => r = .returned (.tuple #[]) ∧ Dw P g w' d' c e ∧ KP P w w' := by
  subst hd
  obtain ⟨S, a, rfl, o, f⟩ := h
  refine (cut_ok a n hn).mono fun r w' hr => ?_
  obtain ⟨rfl, S', h1, h2⟩ := hr
  exact ⟨rfl, Dw.step rfl o f h1 h2⟩
theorem Dw.off (h : Dw P g w d c e) : Calls Try.prog 23 #[ptrV g] w fun r w' => w' = w ∧ r = .returned (.bool d.off) := by
  obtain ⟨S, a, rfl, o, f⟩ := h
  exact off_ok a.ds
theorem Dw.pending (h : Dw P g w d c e) {n : Int} (hn : (d.wait.length : Int) = n) : Calls Try.prog 25 #[ptrV g] w fun r w' => w' = w ∧ r = .returned (.int .i64 n) := by
  subst hn
  obtain ⟨S, a, rfl, o, f⟩ := h
  exact pending_ok a
theorem Dw.used (h : Dw P g w d c e) (hU : usedD d < 4611686018427387904) {n : Int} (hn : usedD d = n) : Calls Try.prog 24 #[ptrV g] w fun r w' => r = .returned (.int .i64 n) ∧ Dw P g w' d c e ∧ KP P w w' := by
  subst hn
  obtain ⟨S, a, rfl, o, f⟩ := h
  refine (used_ok a hU).mono fun r w' hr => ?_
  exact ⟨hr.1, ⟨S, a.below hr.2, rfl, o, fun k hk => f k (Nat.le_trans hr.2.size hk)⟩, KP.of_below hr.2 f⟩
theorem Dw.names (h : Dw P g w d c e) (hc : c ≤ 1099511627776) {n : Nat} (hn : d.l.length = n) : Calls Try.prog 26 #[ptrV g] w fun r w' => (∃ a k, r = .returned (.slice a n k)) ∧ Dw P g w' d c e ∧ KP P w w' := by
  subst hn
  obtain ⟨S, a, rfl, o, f⟩ := h
  refine (names_ok a hc).mono fun r w' hr => ?_
  obtain ⟨v, rfl, h1, h2⟩ := hr
  obtain ⟨va, vc, rfl⟩ := own_sl h1
  have hl : (namesB d).length = d.l.length := by unfold namesB; simp
  exact ⟨⟨va, vc, by rw [hl]⟩, ⟨S, a.below h2, rfl, o, fun k hk => f k (Nat.le_trans h2.size hk)⟩, KP.of_below h2 f⟩
/-- What is read is in memory of its own. -/
theorem Dw.read (h : Dw P g w d c e) {x : ByteArray} (hx : x.size ≤ maxLen) (he : e ≤ 1099511627776) {zs : List Int} {er : Int} (hd : readD d x = (zs, er)) :
    Calls Try.prog 19 #[ptrV g, .string x] w fun r w' => ∃ a k, r = .returned (.tuple #[.slice a zs.length k, .int .i64 er]) ∧ Dw (But P w w') g w' d c e ∧ KP P w w' ∧ Oth (But P w w') w' (.slice a zs.length k) zs := by
  have h0 := h
  obtain ⟨S, a, rfl, o, f⟩ := h
  refine (read_ok a hx he).mono fun r w' hr => ?_
  obtain ⟨v, rfl, hn⟩ := hr
  have hbd : ∀ n ∈ (readD d x).1, 0 ≤ n ∧ n ≤ 255 := by
    unfold readD
    split
    · intro n hn; cases hn
    · split
      · intro n hn; cases hn
      · rename_i F hF
        obtain ⟨z, hz, _, rfl⟩ := find_mem hF
        exact a.fs.bd z.f false (a.fs.nam0 z hz)
  obtain ⟨va, vc, hv⟩ := own_sl hn.1
  rw [hd] at hn hbd hv
  rw [hd]
  subst hv
  exact ⟨va, vc, rfl, h0.made hn.2.1, KP.grown hn.2.1 (fun k hk => by cases hk), Oth.new hn hbd⟩
end
theorem Dw.new {P : Nat → Prop} (w : World) (room : Int) (h0 : -9223372036854775808 ≤ room) (h1 : room ≤ 9223372036854775807) (hf : ∀ k, w.heap.size ≤ k → P k) :
    Calls Try.prog 10 #[.int .i64 room] w fun r w' => r = .returned (ptrV w.heap.size) ∧ Dw P w.heap.size w' (dk0 room) 0 0 ∧ KP P w w' := by
  refine (new_ok w room h0 h1 0).mono fun r w' hr => ?_
  obtain ⟨rfl, a, hg⟩ := hr
  refine ⟨rfl, ⟨_, a, rfl, fun k hk => ?_, fun k hk => hf k (Nat.le_trans hg.size hk)⟩, KP.grown hg (fun k hk => by cases hk)⟩
  have hk : k = w.heap.size := hk
  exact hf k (by omega)
/-- A disk that is none. -/
theorem Dw.lt {P : Nat → Prop} {g : Nat} {w : World} {d : Dk} {c e : Nat} (h : Dw P g w d c e) : g < w.heap.size := by
  obtain ⟨S, a, rfl, o, f⟩ := h
  exact a.sm _ a.ds.og
end Go.Proofs.Ythogdieplfpopaa
