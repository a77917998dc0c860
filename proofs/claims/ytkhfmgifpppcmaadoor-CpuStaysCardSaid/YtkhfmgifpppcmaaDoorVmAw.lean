/-
  What is proved here: a memory of the call's own: New, Map, Store, Load, Fetch.
  Conditions: none.
-/
import Derived.Test.YtkhfmgifpppcmaaDoorVmSto
import Derived.Test.YtkhfmgifpppcmaaDoorVmLd
import Derived.Test.YtkhfmgifpppcmaaDoorVmMap
import Derived.Test.YtkhfmgifpppcmaaDoorVmAdd
namespace Go.Proofs.YtkhfmgifpppcmaaDoor
open Go.RowKit Go.WideMaps Go.Maps
set_option linter.unusedVariables false
set_option linter.unusedSimpArgs false

theorem span_one {M : List Pg} {x n : Nat} {p : Pg} (h : findP M (x / 256 * 256) = some p) (hn : n ≠ 0) (hx : x % 256 + n ≤ 256) : spanP M x n = some [⟨x / 256 * 256, x % 256, n⟩] := by
  rw [span_some hn h, show min n (256 - x % 256) = n by omega, show n - n = 0 by omega, span_zero]; rfl
theorem VFr.below {w w' : World} {S S' : VS} {B : Nat} (h : VFr w w' S S') (hB : B ≤ w.heap.size) (ho : ∀ k, S.own k → B ≤ k) : Below B w w' := ⟨h.os, h.tape, h.output, h.size, fun k hk => h.frm k (Nat.lt_of_lt_of_le hk hB) (fun hx => by have := ho k hx; omega)⟩
theorem VFr.own {w w' : World} {S S' : VS} {B : Nat} (h : VFr w w' S S') (hB : B ≤ w.heap.size) (ho : ∀ k, S.own k → B ≤ k) : ∀ k, S'.own k → B ≤ k := fun k hk => by
  rcases h.own' k hk with h1 | h1
  · exact ho k h1
  · omega
/-- Memory of the call's own. -/
structure AW (w w' : World) (S : VS) (M : List Pg) (g c : Nat) : Prop where
  at0 : VAt w' S M c
  g : S.g = g
  own : ∀ j, S.own j → w.heap.size ≤ j
  bel : Below w.heap.size w w'
theorem AW.later {w w' w2 : World} {S : VS} {M : List Pg} {g c : Nat} (h : AW w w' S M g c) (hb : Below w'.heap.size w' w2) : AW w w2 S M g c :=
  ⟨h.at0.below hb, h.g, h.own, h.bel.trans (hb.mono h.bel.size)⟩
theorem AW.turn {w w' w2 : World} {S : VS} {M N : List Pg} {g c : Nat} (h : AW w w' S M g c) (ha : VAt w2 S N c) (ht : TurnV S w' w2) : AW w w2 S N g c :=
  ⟨ha, h.g, h.own, h.bel.trans (ht.below h.bel.size (fun k hk ho => by have := h.own k ho; omega))⟩
theorem AW.new (w : World) : Calls Tryd.prog 5 #[] w fun r w' => r = .returned (.pointer (some ⟨w.heap.size, 0, none⟩)) ∧ Hid (AW w w' (VS0 w.heap.size) [] w.heap.size 0) :=
  (vnew_ok w).mono fun r w' h => ⟨h.1, Lib.hid ⟨h.2.1, rfl, fun j hj => Nat.le_of_eq (show w.heap.size = j from (show j = w.heap.size from hj).symm), (Below.refl _ _).grown h.2.2 (Nat.le_refl _) (fun _ h => by cases h)⟩⟩
theorem AW.map {w w' : World} {S : VS} {M : List Pg} {g c : Nat} (h : AW w w' S M g c) (x n : Nat) (prot : Int) (f : ByteArray) (off : Int) (x1 : x ≤ 18446744073709551615) (n1 : n ≤ 18446744073709551615) (hf : f.size ≤ maxLen) (o0 : 0 ≤ off) (o1 : off ≤ 18446744073709551615) (hc : c ≤ 1099511000000) :
    Calls Tryd.prog 6 #[.pointer (some ⟨g, 0, none⟩), .int .u64 x, .int .u64 n, .int .i64 prot, .string f, .int .u64 off] w' fun r w2 => r = .returned (.int .i64 (mapR M x n prot f off).2) ∧ Hid (∃ S2, AW w w2 S2 (mapR M x n prot f off).1 g (c + 512)) := by
  have h1 := Map_ok h.at0 x n prot f off x1 n1 hf o0 o1 hc
  unfold ptrV at h1
  rw [h.g] at h1
  refine h1.mono ?_
  rintro r w2 ⟨e1, S2, e2, e3⟩
  exact ⟨e1, Lib.hid ⟨S2, e2, e3.g.trans h.g, e3.own h.bel.size h.own, h.bel.trans (e3.below h.bel.size h.own)⟩⟩
theorem AW.store {w w' : World} {S : VS} {M : List Pg} {g c : Nat} (h : AW w w' S M g c) (x : Nat) (n u : Int) (x1 : x ≤ 18446744073709551615) (u0 : 0 ≤ u) (u1 : u ≤ 18446744073709551615) :
    Calls Tryd.prog 32 #[.pointer (some ⟨g, 0, none⟩), .int .u64 x, .int .i64 n, .int .u64 u] w' fun r w2 => r = .returned (.int .i64 (storeR M x n u).2) ∧ Hid (AW w w2 S (storeR M x n u).1 g c ∧ TurnV S w' w2) := by
  have h1 := Store_ok h.at0 x n u x1 u0 u1
  unfold ptrV at h1
  rw [h.g] at h1
  exact h1.mono fun r w2 e => ⟨e.1, Lib.hid ⟨h.turn e.2.1 e.2.2, e.2.2⟩⟩
theorem AW.load {w w' : World} {S : VS} {M : List Pg} {g c : Nat} (h : AW w w' S M g c) (x : Nat) (n : Int) (x1 : x ≤ 18446744073709551615) :
    Calls Tryd.prog 31 #[.pointer (some ⟨g, 0, none⟩), .int .u64 x, .int .i64 n] w' fun r w2 => r = .returned (.tuple #[.int .u64 (loadR M x n 4).1, .int .i64 (loadR M x n 4).2]) ∧ Hid (Below w'.heap.size w' w2) := by
  have h1 := Load_ok h.at0 x n x1
  unfold ptrV at h1
  rw [h.g] at h1
  exact h1.mono fun r w2 e => ⟨e.1, Lib.hid e.2⟩
theorem AW.fetch {w w' : World} {S : VS} {M : List Pg} {g c : Nat} (h : AW w w' S M g c) (x : Nat) (x1 : x ≤ 18446744073709551615) :
    Calls Tryd.prog 17 #[.pointer (some ⟨g, 0, none⟩), .int .u64 x] w' fun r w2 => r = .returned (.tuple #[.int .u64 (fetchR M x).1, .int .i64 (fetchR M x).2]) ∧ Hid (Below w'.heap.size w' w2) := by
  have h1 := Fetch_ok h.at0 x x1
  unfold ptrV at h1
  rw [h.g] at h1
  exact h1.mono fun r w2 e => ⟨e.1, Lib.hid e.2⟩
end Go.Proofs.YtkhfmgifpppcmaaDoor
