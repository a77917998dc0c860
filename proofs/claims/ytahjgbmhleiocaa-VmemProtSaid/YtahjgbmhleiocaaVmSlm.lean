/-
  What is proved here: plain words for VmemPokes: the code's poke and the reference's are one; what was written is read. · Poke of package vmem, of no bytes at all too; a memory of the call's own, whose blocks are told. · memory's blocks are no row of the reference's pages: that row outlives what memory does.
  Conditions: as they say.
-/
import Derived.Test.YtahjgbmhleiocaaVmAwk
import Derived.Test.YtahjgbmhleiocaaVmRpo
import Derived.Test.YtahjgbmhleiocaaVmMdl
namespace Go.Proofs.Ytahjgbmhleiocaa
open Go.RowKit
set_option linter.unusedVariables false
set_option linter.unusedSimpArgs false

theorem poke_both (M : List Pg) (x : Nat) (bs : List Int) : rpokeR false M x bs = pokeR M x bs := by
  unfold rpokeR pokeR
  by_cases h0 : bs.length = 0
  · rw [if_pos h0, h0, span_zero]
    show (M, (0 : Int)) = (fillM M [] bs, 0)
    rfl
  · rw [if_neg h0]
    cases hs : spanP M x bs.length with
    | none => rfl
    | some L =>
      show (pokeW false M x bs, (0 : Int)) = (fillM M L bs, 0)
      rw [fill_poke bs.length M x bs L rfl hs]
theorem poke_some (d : Bool) (n : Nat) : ∀ (M : List Pg) (x : Nat) (bs : List Int), bs.length = n → ∀ y, (findP (pokeW d M x bs) y).isSome = (findP M y).isSome := by
  induction n using Nat.strongRecOn with
  | ind n ih =>
    intro M x bs hn y
    by_cases hz : bs.length = 0
    · rw [List.length_eq_zero_iff.1 hz, poke_nil]
    · have hd : (bs.drop (min bs.length (256 - x % 256))).length = bs.length - min bs.length (256 - x % 256) := List.length_drop ..
      rw [poke_step hz, ih (bs.length - min bs.length (256 - x % 256)) (by omega) _ _ _ hd, upd_find (f := putD d (x % 256) (bs.take (min bs.length (256 - x % 256)))) (fun _ => rfl), Option.isSome_map]
/-- What was written is read. -/
theorem poke_peek {M : List Pg} {x : Nat} {bs : List Int} (hM : ∀ p ∈ M, p.Ok) (hN : ∀ p ∈ (rpokeR false M x bs).1, p.Ok) :
    (peekR (rpokeR false M x bs).1 x bs.length).2 = (rpokeR false M x bs).2 ∧ ((rpokeR false M x bs).2 = 0 → (peekR (rpokeR false M x bs).1 x bs.length).1 = bs) ∧ ((rpokeR false M x bs).2 = 0 ∨ (rpokeR false M x bs).2 = 40) := by
  unfold rpokeR at *
  by_cases h0 : bs.length = 0
  · rw [if_pos h0] at *
    unfold peekR
    rw [h0, span_zero]
    exact ⟨rfl, fun _ => (List.length_eq_zero_iff.1 h0).symm, .inl rfl⟩
  · rw [if_neg h0] at *
    by_cases hs : (spanP M x bs.length).isSome = true
    · rw [if_pos hs] at *
      have hall := (span_all bs.length x).1 hs
      have hs2 : (spanP (pokeW false M x bs) x bs.length).isSome = true := (span_all _ _).2 fun i hi => by rw [poke_some false bs.length M x bs rfl]; exact hall i hi
      obtain ⟨L, hL⟩ := Option.isSome_iff_exists.1 hs2
      unfold peekR
      show (match spanP (pokeW false M x bs) x bs.length with | none => (([] : List Int), (40 : Int)) | some L => (bytesL (pokeW false M x bs) L, 0)).2 = 0 ∧ ((0 : Int) = 0 → (match spanP (pokeW false M x bs) x bs.length with | none => (([] : List Int), (40 : Int)) | some L => (bytesL (pokeW false M x bs) L, 0)).1 = bs) ∧ _
      rw [hL]
      refine ⟨rfl, fun _ => ?_, .inl rfl⟩
      have hlen : (bytesL (pokeW false M x bs) L).length = bs.length := (bytesL_len hN L (fun p hp => (span_good _ x L hL p hp).1)).trans (span_len _ x L hL)
      refine List.ext_getElem hlen fun i hi1 hi2 => ?_
      obtain ⟨q, hq, e⟩ := span_byte hN _ x L hL i hi2
      have e2 := poke_byte (d := false) (M := M) (x := x) (bs := bs) (fun q hq => ⟨(hM q hq).len, (hM q hq).al⟩) (y := x + i) (hall i hi2)
      rw [if_pos ⟨by omega, by omega⟩, show x + i - x = i by omega, byteP_of hq, ← e] at e2
      rw [List.getD_eq_getElem?_getD, List.getElem?_eq_getElem hi1, List.getD_eq_getElem?_getD, List.getElem?_eq_getElem hi2] at e2
      exact e2
    · rw [if_neg hs] at *
      have hn : spanP M x bs.length = none := by
        cases h : spanP M x bs.length with
        | none => rfl
        | some L => rw [h] at hs; exact absurd rfl hs
      refine ⟨?_, fun h => absurd h (show ¬ (40 : Int) = 0 by decide), Or.inr rfl⟩
      unfold peekR
      show (match spanP M x bs.length with | none => (([] : List Int), (40 : Int)) | some L => (bytesL M L, 0)).2 = 40
      rw [hn]
theorem map3_len (prot : Int) (f : ByteArray) (off : Int) : (mapR [] 512 768 prot f off).1.length ≤ 3 := by
  unfold mapR
  split
  · split
    · exact Nat.zero_le _
    · split
      · exact Nat.zero_le _
      · rw [addN_len]; decide
  · exact Nat.zero_le _
theorem rpoke_len (d : Bool) (M : List Pg) (x : Nat) (bs : List Int) : (rpokeR d M x bs).1.length = M.length := by
  unfold rpokeR
  split
  · rfl
  · split
    · have := congrArg List.length (poke_as d bs.length M x bs rfl)
      rw [List.length_map, List.length_map] at this
      exact this
    · rfl
end Go.Proofs.Ytahjgbmhleiocaa
namespace Go.Proofs.Ytahjgbmhleiocaa
open Go.RowKit Go.WideMaps Go.Maps
set_option linter.unusedVariables false
set_option linter.unusedSimpArgs false

theorem fill_nil (w : World) (va : Option Addr) (vc : Nat) (bd : Option Addr) (bc : Nat) :
    Calls Try.prog 40 #[.slice va 0 vc, .slice bd 0 bc] w fun r w' => r = .returned (.tuple #[]) ∧ w = w' := by
  go_enter Try.func40, Try.ntmps40
  go_wp2
  go_loopw [8] (fun i wr => i = .int .i64 0 ∧ w = wr) (fun _ _ => 0)
  case atStart => exact ⟨rfl, rfl⟩
  case round =>
    obtain ⟨rfl, rfl⟩ := hrel
    go_wp2
    go_end0
    exact ⟨rfl, rfl⟩
theorem Poke0_ok {w : World} {S : VS} {M : List Pg} {c : Nat} (h : VAt w S M c) (x : Nat) (x1 : x ≤ 18446744073709551615) (bd : Option Addr) (bc : Nat) (hbc : bc ≤ 9223372036854775807) :
    Calls Try.prog 19 #[ptrV S.g, .int .u64 x, .slice bd 0 bc] w fun r w' => r = .returned (.int .i64 0) ∧ Below w.heap.size w w' := by
  have HF := Lib.hid (vfind_ok h x 0 x1 (by omega))
  rw [span_zero] at HF
  unfold ptrV at *
  have hbci : (bc : Int) ≤ 9223372036854775807 := by omega
  clear h hbc
  go_enter Try.func19, Try.ntmps19
  go_wp2_with fail
  refine HF.out.mono ?_
  rintro r1 w1 ⟨hb1, v, rfl, hv⟩
  obtain ⟨va, vc, rfl⟩ := own_slp hv
  have HB1 := Lib.hid hb1
  clear hb1 HF hv
  go_wp2_with fail
  refine (fill_nil w1 va vc bd bc).mono ?_
  rintro r2 w2 ⟨rfl, rfl⟩
  go_wp2
  go_ret
  exact ⟨rfl, HB1.out⟩
theorem AW.poke {w w' : World} {S : VS} {M : List Pg} {g c : Nat} (h : AW w w' S M g c) (x : Nat) (x1 : x ≤ 18446744073709551615) (zs : List Int) (bd : Option Addr) (bn bc : Nat) (hb : Bys w w.heap.size bd bn zs) (hcc : bn ≤ bc) (hbc : bc ≤ 9223372036854775807) (hbn : bn ≤ 268435456) :
    Calls Try.prog 19 #[.pointer (some ⟨g, 0, none⟩), .int .u64 x, .slice bd bn bc] w' fun r w2 => r = .returned (.int .i64 (pokeR M x zs).2) ∧ Hid (AW w w2 S (pokeR M x zs).1 g c ∧ TurnV S w' w2) := by
  by_cases h0 : bn = 0
  · subst h0
    have h1 := Poke0_ok h.at0 x x1 bd bc hbc
    unfold ptrV at h1
    rw [h.g] at h1
    have hz : zs = [] := List.length_eq_zero_iff.1 hb.1
    subst hz
    have hp : pokeR M x [] = (M, 0) := by
      unfold pokeR
      show (match spanP M x 0 with | none => (M, (40 : Int)) | some L => (fillM M L [], 0)) = _
      rw [span_zero]; rfl
    rw [hp]
    exact h1.mono fun r w2 e => ⟨e.1, Lib.hid ⟨h.later e.2, TurnV.of_below e.2⟩⟩
  · have h1 := Poke_ok h.at0 x x1 zs bd bn bc ((hb.below h.bel).more h.bel.size) (fun gb ob e ho => by
      obtain ⟨b', o', e', hlt, _⟩ := hb.2.2 (by omega)
      rw [e] at e'
      injection e' with e'
      injection e' with e1
      subst e1
      have := h.own _ ho
      omega) hcc hbc hbn
    unfold ptrV at h1
    rw [h.g] at h1
    exact h1.mono fun r w2 e => ⟨e.1, Lib.hid ⟨h.turn e.2.1 e.2.2, e.2.2⟩⟩
theorem AW.map2 {w w' : World} {S : VS} {M : List Pg} {g c : Nat} (h : AW w w' S M g c) (x n : Nat) (prot : Int) (f : ByteArray) (off : Int) (x1 : x ≤ 18446744073709551615) (n1 : n ≤ 18446744073709551615) (hf : f.size ≤ maxLen) (o0 : 0 ≤ off) (o1 : off ≤ 18446744073709551615) (hc : c ≤ 1099511000000) :
    Calls Try.prog 15 #[.pointer (some ⟨g, 0, none⟩), .int .u64 x, .int .u64 n, .int .i64 prot, .string f, .int .u64 off] w' fun r w2 => r = .returned (.int .i64 (mapR M x n prot f off).2) ∧ Hid (∃ S2, AW w w2 S2 (mapR M x n prot f off).1 g (c + 512) ∧ (∀ j, S2.own j → S.own j ∨ w'.heap.size ≤ j) ∧ VFr w' w2 S S2) := by
  have h1 := Map_ok h.at0 x n prot f off x1 n1 hf o0 o1 hc
  unfold ptrV at h1
  rw [h.g] at h1
  refine h1.mono ?_
  rintro r w2 ⟨e1, S2, e2, e3⟩
  exact ⟨e1, Lib.hid ⟨S2, ⟨e2, e3.g.trans h.g, e3.own h.bel.size h.own, h.bel.trans (e3.below h.bel.size h.own)⟩, e3.own', e3⟩⟩
/-- A store outside memory. -/
theorem AW.put {w w' : World} {S : VS} {M : List Pg} {g c : Nat} (h : AW w w' S M g c) {b : Nat} (hb : ¬ S.own b) (hw : w.heap.size ≤ b) (u : Value) : AW w (w'.setCell ⟨b, 0, none⟩ u) S M g c :=
  ⟨h.at0.same (fun k hk => Below.heap_setCell _ _ _ _ (fun e => hb (by have e : k = b := e; rw [← e]; exact hk))) (by rw [World.size_setCell]; exact Nat.le_refl _), h.g, h.own, h.bel.setCell (p := ⟨b, 0, none⟩) hw u⟩
end Go.Proofs.Ytahjgbmhleiocaa
namespace Go.Proofs.Ytahjgbmhleiocaa
open Go.RowKit Go.WideMaps Go.Maps
set_option linter.unusedVariables false
set_option linter.unusedSimpArgs false

/-- The same shape, owning only what it must. -/
def slim (S : VS) (M : List Pg) : VS := { S with own := fun k => k = S.g ∨ S.m = some k ∨ ∃ p ∈ M, k = S.pb p.a }
theorem slim_sub {w : World} {S : VS} {M : List Pg} {c : Nat} (h : VAt w S M c) : ∀ k, (slim S M).own k → S.own k := by
  rintro k (rfl | hk | ⟨p, hp, rfl⟩)
  · exact h.og
  · exact h.om _ hk
  · exact h.op p hp
theorem VAt.slim {w : World} {S : VS} {M : List Pg} {c : Nat} (h : VAt w S M c) : VAt w (slim S M) M c :=
  ⟨h.sp, h.mp, h.pg, h.inj, h.ok, h.so, h.le, .inl rfl, fun b hb => .inr (.inl hb), fun p hp => .inr (.inr ⟨p, hp, rfl⟩), fun k hk => h.sm _ (slim_sub h k hk)⟩
theorem AW.slim {w w' : World} {S : VS} {M : List Pg} {g c : Nat} (h : AW w w' S M g c) : AW w w' (slim S M) M g c :=
  ⟨h.at0.slim, h.g, fun j hj => h.own j (slim_sub h.at0 j hj), h.bel⟩
theorem row_apart {w : World} {S : VS} {M : List Pg} {c : Nat} (h : VAt w S M c) {b o : Nat} {s : Rp} (hr : Rp.At w b o s) : ¬ (Go.Proofs.Ytahjgbmhleiocaa.slim S M).own b := by
  have h0 := hr.c0
  have h1 := hr.c1
  rintro (rfl | hk | ⟨p, hp, rfl⟩)
  · rw [h.sp.cell] at h0
    cases o with
    | zero => simp at h0
    | succ k => simp at h0
  · have hm := h.mp
    rw [hk] at hm
    obtain ⟨D, n, hn, hz, ⟨es, cl, hb, r⟩, hi⟩ := hm
    unfold World.cell? at h0
    simp only [hb] at h0
    cases h0
  · rw [(h.pg p hp).cell] at h0 h1
    unfold pgC at h0 h1
    match o, h0, h1 with
    | 0, h0, _ => simp at h0
    | 1, h0, _ => simp at h0
    | 2, h0, _ => simp at h0
    | 3, _, h1 =>
      simp only [List.getElem?_toArray, List.getElem?_cons_succ, List.getElem?_map, Nat.reduceAdd] at h1
      cases hb : p.b[0]? with
      | none => rw [hb] at h1; cases h1
      | some x => rw [hb] at h1; cases h1
    | k + 4, h0, _ =>
      simp only [List.getElem?_toArray, List.getElem?_cons_succ, List.getElem?_map] at h0
      cases hb : p.b[k]? with
      | none => rw [hb] at h0; cases h0
      | some x => rw [hb] at h0; cases h0
theorem RAt.turn {w w' : World} {S : VS} {N M : List Pg} {c e B : Nat} {a : Option Addr} {n : Nat} (h : RAt w B a n c M) (hv : VAt w S N e) (ht : TurnV (Go.Proofs.Ytahjgbmhleiocaa.slim S N) w w') (hB : B ≤ w.heap.size) : RAt w' B a n c M := by
  refine ⟨⟨h.sl.hl, fun s hs => ?_, fun hp => ?_⟩, h.le, h.mx, h.so, h.ok, h.lm⟩
  · have := h.sl.hok s hs
    exact ⟨this.a, this.pr, this.di, this.fi, this.of, this.b⟩
  · obtain ⟨b, off, e, hb, hc⟩ := h.sl.hc hp
    have hno := row_apart hv (hc 0 hp)
    refine ⟨b, off, e, hb, fun i hi => ?_⟩
    have hx : ∀ j, w'.cell? ⟨b, j, none⟩ = w.cell? ⟨b, j, none⟩ := fun j => World.cell?_of_block (w := w) (ht.block b (Nat.lt_of_lt_of_le hb hB) hno)
    have ha := hc i hi
    exact ⟨(hx _).trans ha.c0, (hx _).trans ha.c1, (hx _).trans ha.c2, (hx _).trans ha.c3, (hx _).trans ha.c4, (hx _).trans ha.c5⟩
theorem aw_peek {w w' : World} {S : VS} {M : List Pg} {g c : Nat} (h : AW w w' S M g c) (x n : Nat) (x1 : x ≤ 18446744073709551615) (n1 : n ≤ 268435456) :
    Calls Try.prog 14 #[.pointer (some ⟨g, 0, none⟩), .int .u64 x, .int .u64 n] w' fun e w2 => ∃ v, e = .returned (.tuple #[v, .int .i64 (peekR M x n).2]) ∧ w2.ownsRow w'.heap.size 5 1 v (peekR M x n).1.length ((peekR M x n).1.map (Value.int .u8)) ∧ Below w'.heap.size w' w2 := by
  have h1 := Peek_ok h.at0 x n x1 n1
  unfold ptrV at h1
  rw [h.g] at h1
  exact h1
end Go.Proofs.Ytahjgbmhleiocaa
