/-
  What is proved here: Write of package disk.
  Conditions: none.
-/
import Derived.Test.YthogdieplfpopaaDskWr2
import Derived.Test.YthogdieplfpopaaDskChk
namespace Go.Proofs.Ythogdieplfpopaa
open Go.RowKit Go.WideMaps Go.Maps
set_option linter.unusedVariables false
set_option linter.unusedSimpArgs false

theorem Fr.below {w w' : World} {S : Sh} (hb : Below w.heap.size w w') : Fr w w' S S := ⟨hb.os, hb.tape, hb.output, hb.size, fun k hk _ => hb.block k hk, rfl, fun k hk => .inl hk⟩
theorem OpAt.up {w : World} {S : Sh} {e e' : Nat} {o : Do} {c0 c1 : Value} (h : OpAt w S e o c0 c1) (he : e ≤ e') : OpAt w S e' o c0 c1 := by
  rcases h with ⟨k1, r0, bf, ba, bb, cap, a, r1, x1, x2, x3, x4, x5, x6, x7, x8, x9, x10, x11, x12⟩ | h | h | h
  · exact .inl ⟨k1, r0, bf, ba, bb, cap, a, r1, x1, x2, x3, x4, x5, x6, x7, x8, x9, x10, Nat.le_trans x11 he, x12⟩
  · exact .inr (.inl h)
  · exact .inr (.inr (.inl h))
  · exact .inr (.inr (.inr h))
theorem At.up2 {w : World} {S : Sh} {d : Dk} {c c' e e' : Nat} (h : At w S d c e) (hc : c ≤ c') (he : e ≤ e') : At w S d c' e' :=
  ⟨h.ds, h.fs.up hc he, ⟨h.pn.pend, fun j hj => (h.pn.ops j hj).up he, Nat.le_trans h.pn.le hc, h.pn.op⟩, h.sm⟩
/-- Bytes that are not the disk's. -/
def Ext (w : World) (S : Sh) (v : Value) (zs : List Int) : Prop := (v = .slice none 0 0 ∧ zs = []) ∨ ∃ ad cap, v = .slice (some ad) zs.length cap ∧ (zs ≠ [] → ¬ S.own ad.block) ∧ ∀ j u, (u8V zs)[j]? = some u → w.cell? (ad.add j) = some u
theorem Ext.src {w : World} {S : Sh} {v : Value} {zs : List Int} (h : Ext w S v zs) : Src w v zs := by
  rcases h with h | ⟨ad, cap, h1, _, h3⟩
  · exact .inl h
  · exact .inr ⟨ad, cap, h1, h3⟩
theorem add_block (a : Addr) (j : Nat) : (a.add j).block = a.block := by unfold Addr.add; split <;> rfl
theorem Ext.fr {w w' : World} {S S' : Sh} {v : Value} {zs : List Int} (h : Ext w S v zs) (hf : Fr w w' S S') : Src w' v zs := by
  rcases h with h | ⟨ad, cap, h1, h2, h3⟩
  · exact .inl h
  · refine .inr ⟨ad, cap, h1, fun j u hj => ?_⟩
    have hc := h3 j u hj
    have hb := World.block_lt_of_cell? w _ hc
    rw [World.cell?_of_block (hf.frm _ hb (by rw [add_block]; exact h2 (fun e => by rw [e] at hj; cases hj)))]
    exact hc
theorem errW_zero {d : Dk} {x : ByteArray} {p : Int} {n : Nat} (h : errW d x p n = 0) : ∃ F, findD d.l x = some F ∧ 0 ≤ p ∧ p ≤ (d.is.getD F []).length := by
  unfold errW at h
  cases hf : findD d.l x with
  | none => rw [hf] at h; simp at h
  | some F =>
    rw [hf] at h
    simp only at h
    by_cases hp : p < 0 ∨ ((d.is.getD F []).length : Int) < p
    · rw [if_pos hp] at h; cases h
    · exact ⟨F, rfl, by omega, by omega⟩
theorem errW_errD (d : Dk) (x : ByteArray) (p : Int) (b : List Int) : errD d 2 x .empty p b = if d.off = true then 23 else errW d x p b.length := by
  unfold errD errW
  by_cases h : d.off = true
  · rw [if_pos h, if_pos h]
  · rw [if_neg h, if_neg h, if_neg (by decide), if_pos rfl]
    cases findD d.l x <;> rfl
set_option maxHeartbeats 1600000 in
theorem Write1_ok {w : World} {S : Sh} {d : Dk} {c e : Nat} (h : At w S d c e) {x : ByteArray} (hx : x.size ≤ maxLen) (p : Int) {bl : List Int} {bv : Value} (hs : Src w bv bl) (hn : bl.length ≤ 1099511627776) (he : e ≤ 1099511627776) (hU : usedD d < 4611686018427387904) (hU0 : 0 ≤ usedD d) (hp0 : -9223372036854775808 ≤ p) (hp1 : p ≤ 9223372036854775807)
    {bd bn bp bb : Nat} (h1 : Blk w bd #[ptrV S.g] 24) (h2 : Blk w bn #[.string x] 9) (h3 : Blk w bp #[.int .i64 p] 3) (h4 : Blk w bb #[bv] 32) :
    Calls Try.prog 43 #[ptrV bd, ptrV bn, ptrV bp, ptrV bb] w fun r w' => r = .returned (.int .i64 (errW d x p bl.length)) ∧ Below w.heap.size w w' := by
  have HC := Lib.hid (chk_ok h hx p bl.length hn he hU hU0 hp0 hp1)
  have c0 : w.cell? ⟨bd, 0, none⟩ = some (ptrV S.g) := h1.cell 0
  have c1 : w.cell? ⟨bn, 0, none⟩ = some (.string x) := h2.cell 0
  have c2 : w.cell? ⟨bp, 0, none⟩ = some (.int .i64 p) := h3.cell 0
  have c3 : w.cell? ⟨bb, 0, none⟩ = some bv := h4.cell 0
  obtain ⟨ba, bc, hbv⟩ : ∃ a c, bv = .slice a bl.length c := by
    rcases hs with ⟨e1, e2⟩ | ⟨ad, cap, e1, _⟩
    · exact ⟨_, _, by rw [e1, e2]; rfl⟩
    · exact ⟨_, _, e1⟩
  rw [hbv] at c3
  clear h hx hs hn he hU hU0 hp0 hp1 h1 h2 h3 h4 hbv
  generalize errW d x p bl.length = er at *
  generalize bl.length = n at *
  unfold ptrV at *
  go_enter Try.func43, Try.ntmps43
  go_wp2_with fail
  refine HC.out.mono ?_
  rintro r w' ⟨rfl, hb⟩
  have HB := Lib.hid hb
  clear hb
  go_wp2
  go_ret
  exact ⟨rfl, HB.out⟩
theorem Write2_ok {w : World} {S : Sh} {d : Dk} {c e : Nat} (h : At w S d c e) {x : ByteArray} (hx : x.size ≤ maxLen) {p : Int} {bl : List Int} {bv : Value} (hs : Src w bv bl) (hbl : ∀ n ∈ bl, 0 ≤ n ∧ n ≤ 255) {F : Nat} (hf : findD d.l x = some F) (hp : 0 ≤ p) (hpe : p.toNat + bl.length ≤ e) (hc : c < 1099511627776) (he : e ≤ 1099511627776)
    {bd bn bp bb : Nat} (h1 : Blk w bd #[ptrV S.g] 24) (h2 : Blk w bn #[.string x] 9) (h3 : Blk w bp #[.int .i64 p] 3) (h4 : Blk w bb #[bv] 32) :
    Calls Try.prog 45 #[ptrV bd, ptrV bn, ptrV bp, ptrV bb] w (fun r w' => r = .returned (.tuple #[]) ∧ ∃ S', At w' S' (doneD d 2 x .empty p.toNat bl) (c + 1) e ∧ Fr w w' S S') := by
  have hlF : S.live F := by
    obtain ⟨y, hy1, _, hy3⟩ := find_mem hf
    rw [← hy3]; exact h.fs.nam0 y hy1
  have edn : doneD d 2 x .empty p.toNat bl = waitD d ⟨1, F, p.toNat, bl, .empty, .empty⟩ := by
    unfold doneD
    rw [if_neg (by decide), if_pos rfl, hf]
    rfl
  have hpi : ((p.toNat : Nat) : Int) = p := by omega
  refine wr2_reg (S := S) (F := F) (n := bl.length) (xs := u8V bl) (x := x) (p := p) (bv := bv) (fun w' => ∃ S', At w' S' (doneD d 2 x .empty p.toNat bl) (c + 1) e ∧ Fr w w' S S')
    (Lib.hid fun w9 hb => ⟨Blk.later (w := w.drew) h1 hb, Blk.later (w := w.drew) h2 hb, Blk.later (w := w.drew) h3 hb, Blk.later (w := w.drew) h4 hb⟩)
    (Lib.hid fun w9 hb => ?_) (Lib.hid fun w9 hb => ?_) (Lib.hid fun w9 v' hb ho => ?_)
  · have := find_ok (h.drew.below hb).hd hx
    rw [hf] at this
    exact this
  · have hs9 : Src w9 bv bl := by
      rcases hs with hs | ⟨ad, cap, e1, e2⟩
      · exact .inl hs
      · refine .inr ⟨ad, cap, e1, fun j u hj => ?_⟩
        have hcc := e2 j u hj
        rw [World.cell?_of_block (hb.block _ (World.block_lt_of_cell? w _ hcc))]
        exact hcc
    refine (clone_ok hs9 (by omega)).mono fun r w1 hr => ?_
    obtain ⟨v', rfl, n1, n2, n3⟩ := hr
    refine ⟨v', rfl, hb.grown n2 hb.size (fun _ h => by cases h), ?_⟩
    refine ⟨n1.1, ?_⟩
    rcases n1.2 with g1 | ⟨g, cap, cur, e1, _, e3⟩
    · exact .inl g1
    · exact .inr ⟨g, cap, cur, e1, Nat.le_trans hb.size (n3 g (by rw [e1]; rfl)), e3⟩
  · obtain ⟨va, vc, rfl⟩ := own_sl ho
    have h9 := h.drew.below hb
    have hw := write_ok (f := F) (p := p.toNat) (b := bl) h9 hlF (own_base ho (Nat.zero_le _)) hbl (fun k hk hx => by
        have h1 := (ho.lt k hk).1
        have h2 := h.sm k hx
        have h3 : w.drew.heap.size = w.heap.size := rfl
        omega) (fun k => (Value.slice va bl.length vc).ownBlock = some k) (fun k hk => hk) hpe hc he w.drew S (fun k hk => ho.lt k hk) (Fr.below hb) rfl
    rw [hpi, ← edn] at hw
    exact hw.mono fun r w1 hr => ⟨hr.1, Lib.hid (by obtain ⟨S', a, b, _⟩ := hr.2; exact ⟨S', a, b.ofDrew⟩)⟩
set_option maxHeartbeats 1600000 in
set_option maxRecDepth 100000 in
theorem Write_ok {w : World} {S : Sh} {d : Dk} {c e : Nat} (h : At w S d c e) {x : ByteArray} {p : Int} {bl : List Int} {bv : Value} (hx : x.size ≤ maxLen) (hext : Ext w S bv bl) (hbl : ∀ n ∈ bl, 0 ≤ n ∧ n ≤ 255) (hU : usedD d < 4611686018427387904) (hU0 : 0 ≤ usedD d) (hp0 : -9223372036854775808 ≤ p) (hp1 : p ≤ 9223372036854775807) (hc : c < 1099511627776) (he : e + bl.length ≤ 1099511627776) :
    Calls Try.prog 15 #[ptrV S.g, .string x, .int .i64 p, bv] w (OpPost w S (doD d 2 x .empty p bl) (c + 1) (e + bl.length)) := by
  have hbv : ∃ a n c, bv = .slice a n c := by
    rcases hext with ⟨e1, e2⟩ | ⟨ad, cap, e1, _⟩
    · exact ⟨_, _, _, e1⟩
    · exact ⟨_, _, _, e1⟩
  obtain ⟨w1, e1⟩ : ∃ w1, w1 = w.alloc (.cells #[ptrV S.g] 24) := ⟨_, rfl⟩
  obtain ⟨w2, e2⟩ : ∃ w2, w2 = w1.alloc (.cells #[.string x] 9) := ⟨_, rfl⟩
  obtain ⟨w3, e3⟩ : ∃ w3, w3 = w2.alloc (.cells #[.int .i64 p] 3) := ⟨_, rfl⟩
  obtain ⟨w4, e4⟩ : ∃ w4, w4 = w3.alloc (.cells #[bv] 32) := ⟨_, rfl⟩
  have s1 : w1.heap.size = w.heap.size + 1 := by rw [e1, al_size]
  have s2 : w2.heap.size = w.heap.size + 1 + 1 := by rw [e2, al_size, s1]
  have s3 : w3.heap.size = w.heap.size + 1 + 1 + 1 := by rw [e3, al_size, s2]
  have s4 : w4.heap.size = w.heap.size + 1 + 1 + 1 + 1 := by rw [e4, al_size, s3]
  have hg : w.grownBy w4 none := by rw [e4, e3, e2, e1]; exact al_grown _ _ _ (al_grown _ _ _ (al_grown _ _ _ (al_grown _ _ _ (gr_refl w))))
  have hA : At w4 S d c e := h.grown hg (fun _ h => by cases h)
  have b1 : Blk w4 w.heap.size #[ptrV S.g] 24 := by rw [e4, e3, e2, e1]; exact Blk.alloc (Blk.alloc (Blk.alloc (Blk.newAt _ _ rfl) _) _) _
  have n1 : ¬ S.own w.heap.size := fun hk => by have := h.sm _ hk; omega
  have b2 : Blk w4 (w.heap.size + 1) #[.string x] 9 := by rw [e4, e3, e2]; exact Blk.alloc (Blk.alloc (Blk.newAt _ _ s1.symm) _) _
  have n2 : ¬ S.own (w.heap.size + 1) := fun hk => by have := h.sm _ hk; omega
  have b3 : Blk w4 (w.heap.size + 1 + 1) #[.int .i64 p] 3 := by rw [e4, e3]; exact Blk.alloc (Blk.newAt _ _ s2.symm) _
  have n3 : ¬ S.own (w.heap.size + 1 + 1) := fun hk => by have := h.sm _ hk; omega
  have b4 : Blk w4 (w.heap.size + 1 + 1 + 1) #[bv] 32 := by rw [e4]; exact Blk.newAt _ _ s3.symm
  have n4 : ¬ S.own (w.heap.size + 1 + 1 + 1) := fun hk => by have := h.sm _ hk; omega
  have hfr0 : Fr w w4 S S := ⟨hg.os, hg.tape, hg.output, hg.size, fun k hk hn => hg.block k hk (by simp), rfl, fun k hk => .inl hk⟩
  have hop := operate_ok (c' := c + 1) (hA.up2 (Nat.le_refl c) (Nat.le_add_right e bl.length)) (Nat.le_succ c) 43 45 #[ptrV w.heap.size, ptrV (w.heap.size + 1), ptrV (w.heap.size + 1 + 1), ptrV (w.heap.size + 1 + 1 + 1)] #[ptrV w.heap.size, ptrV (w.heap.size + 1), ptrV (w.heap.size + 1 + 1), ptrV (w.heap.size + 1 + 1 + 1)] (errW d x p bl.length) (fun w => by kernel_rfl) (fun w => by kernel_rfl) (dn := doneD (powerD d) 2 x .empty p.toNat bl)
    (fun _ => (Write1_ok hA hx p (hext.fr hfr0) (by omega) (by omega) hU hU0 hp0 hp1 b1 b2 b3 b4).mono fun r w' hr => by obtain ⟨rfl, _⟩ := id hr; exact ⟨rfl, (hA.below hr.2).up2 (Nat.le_refl c) (Nat.le_add_right e bl.length), Fr.below hr.2⟩)
    (fun _ e9 w9 S9 h9 f9 => (by have hpd := powerD_same d; obtain ⟨F, hF, g1, g2⟩ := errW_zero e9; have hq : (d.is.getD F []).length ≤ e := h.fs.len F false (by obtain ⟨y, hy1, _, hy3⟩ := find_mem hF; rw [← hy3]; exact h.fs.nam0 y hy1); exact Write2_ok (F := F) h9 hx (hext.fr (hfr0.trans f9)) hbl (by rw [hpd.2]; exact hF) g1 (by omega) hc he (by have := (b1).fr f9 n1; rw [f9.g]; exact this) (by have := (b2).fr f9 n2; exact this) (by have := (b3).fr f9 n3; exact this) (by have := (b4).fr f9 n4; exact this)))
  have edo : doD d 2 x .empty p bl = opD d (errW d x p bl.length) (doneD (powerD d) 2 x .empty p.toNat bl) := doD_op (errW d x p bl.length) (errW_errD d x p bl)
  rw [← edo] at hop
  clear edo
  have hfr : Fr w w4 S S := ⟨hg.os, hg.tape, hg.output, hg.size, fun k hk hn => hg.block k hk (by simp), rfl, fun k hk => .inl hk⟩
  have HO : Hid (Calls Try.prog 40 #[ptrV S.g, .func (.func 43) #[] #[ptrV w.heap.size, ptrV (w.heap.size + 1), ptrV (w.heap.size + 1 + 1), ptrV (w.heap.size + 1 + 1 + 1)], .func (.func 45) #[] #[ptrV w.heap.size, ptrV (w.heap.size + 1), ptrV (w.heap.size + 1 + 1), ptrV (w.heap.size + 1 + 1 + 1)]] w4 (fun r w' => r = .returned (.int .i64 (doD d 2 x .empty p bl).2) ∧ Hid (OpPost w S (doD d 2 x .empty p bl) (c + 1) (e + bl.length) r w'))) := Lib.hid (hop.mono fun r w' hr => ⟨hr.1, Lib.hid ⟨hr.1, by obtain ⟨S', a, b⟩ := hr.2; exact ⟨S', a, hfr.trans b⟩⟩⟩)
  rw [e4, e3, e2, e1] at HO
  clear hop hfr hA hg h b1 n1 b2 n2 b3 n3 b4 n4 hx hext hbl hU hU0 hp0 hp1 hfr0
  clear s1 s2 s3 s4
  subst e4 e3 e2 e1
  generalize doD d 2 x .empty p bl = dd at *
  obtain ⟨dd, er⟩ := dd
  obtain ⟨ba, bn', bc, rfl⟩ := hbv
  unfold ptrV at *
  go_enter Try.func15, Try.ntmps15
  go_wp2_with fail
  refine HO.out.mono ?_
  rintro r w' ⟨rfl, hS⟩
  go_wp2
  go_ret
  exact hS.out
end Go.Proofs.Ythogdieplfpopaa
