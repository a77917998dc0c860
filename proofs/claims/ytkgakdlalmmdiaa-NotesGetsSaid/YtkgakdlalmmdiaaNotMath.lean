/-
  What is proved here: plain words: a note's bytes; what Put makes of notes, Get of bytes, Find of a list.
  Conditions: none; nothing here speaks of the program.
-/
import Derived.Test.YtkgakdlalmmdiaaNotWords
import Derived.Test.YtkgakdlalmmdiaaNum
namespace Go.Proofs.Ytkgakdlalmmdiaa
open Go.RowKit
set_option linter.unusedVariables false

/-- A note's name, type and bytes. -/
structure Nd where
  na : List Int
  ty : Int
  de : List Int
def Nt.nd (s : Nt) : Nd := ⟨bs s.na, s.ty, s.de.zs⟩
/-- The least multiple of 4 that isn't below. -/
def upN (n : Nat) : Nat := (n + 3) / 4 * 4
theorem upN_le (n : Nat) : n ≤ upN n ∧ upN n < n + 4 ∧ upN n % 4 = 0 := by unfold upN; omega
theorem upN_add {a n : Nat} (h : a % 4 = 0) : upN (a + n) = a + upN n := by unfold upN; omega
theorem upN_zero : upN 0 = 0 := rfl
/-- Bytes with noughts behind them up to a multiple of 4. -/
def padN (zs : List Int) : List Int := zs ++ List.replicate (upN zs.length - zs.length) 0
theorem padN_len (zs : List Int) : (padN zs).length = upN zs.length := by
  unfold padN
  rw [List.length_append, List.length_replicate]
  have := (upN_le zs.length).1
  omega
theorem padN_app {A B : List Int} (h : A.length % 4 = 0) : padN (A ++ B) = A ++ padN B := by
  unfold padN
  rw [List.length_append, upN_add h, List.append_assoc, show A.length + upN B.length - (A.length + B.length) = upN B.length - B.length by omega]
theorem padN_bd {zs : List Int} (h : ∀ n ∈ zs, 0 ≤ n ∧ n ≤ 255) : ∀ n ∈ padN zs, 0 ≤ n ∧ n ≤ 255 := by
  intro n hn
  unfold padN at hn
  rcases List.mem_append.1 hn with hn | hn
  · exact h n hn
  · rw [List.eq_of_mem_replicate hn]; decide
/-! ### Put -/
def headN (d : Nd) : List Int := digs (d.na.length + 1 : Nat) 4 ++ (digs (d.de.length : Nat) 4 ++ digs d.ty 4)
theorem headN_len (d : Nd) : (headN d).length = 12 := by simp [headN, digs_len]
def encN (d : Nd) : List Int := headN d ++ (padN (d.na ++ [0]) ++ padN d.de)
theorem encN_len (d : Nd) : (encN d).length = 12 + (upN (d.na.length + 1) + upN d.de.length) := by
  unfold encN
  rw [List.length_append, List.length_append, headN_len, padN_len, padN_len, List.length_append]
  rfl
theorem encN_mod (d : Nd) : (encN d).length % 4 = 0 := by
  rw [encN_len]
  have h1 := (upN_le (d.na.length + 1)).2.2
  have h2 := (upN_le d.de.length).2.2
  omega
structure Nd.Ok (d : Nd) : Prop where
  na : ∀ n ∈ d.na, 0 ≤ n ∧ n ≤ 255
  ty : 0 ≤ d.ty ∧ d.ty ≤ 4294967295
  de : ∀ n ∈ d.de, 0 ≤ n ∧ n ≤ 255
theorem encN_bd {d : Nd} (h : d.Ok) : ∀ n ∈ encN d, 0 ≤ n ∧ n ≤ 255 := by
  intro n hn
  simp only [encN, headN, List.mem_append] at hn
  rcases hn with (h1 | h1 | h1) | h1 | h1
  · exact digs_bd _ _ n h1
  · exact digs_bd _ _ n h1
  · exact digs_bd _ _ n h1
  · refine padN_bd (fun m hm => ?_) n h1
    rcases List.mem_append.1 hm with hm | hm
    · exact h.na m hm
    · obtain rfl := List.mem_singleton.1 hm; decide
  · exact padN_bd h.de n h1
def flatN (L : List Nd) : List Int := L.flatMap encN
theorem flatN_snoc (L : List Nd) (d : Nd) : flatN (L ++ [d]) = flatN L ++ encN d := by
  unfold flatN; rw [List.flatMap_append]; simp
theorem flatN_mod : ∀ L : List Nd, (flatN L).length % 4 = 0
  | [] => rfl
  | d :: L => by
    have h1 := flatN_mod L
    have h2 := encN_mod d
    unfold flatN at h1 ⊢
    rw [List.flatMap_cons, List.length_append]; omega
theorem flatN_bd {L : List Nd} (h : ∀ d ∈ L, d.Ok) : ∀ n ∈ flatN L, 0 ≤ n ∧ n ≤ 255 := by
  intro n hn
  obtain ⟨d, hd, he⟩ := List.mem_flatMap.1 hn
  exact encN_bd (h d hd) n he
/-- Is there a byte 0 in a name? -/
def zeroIn (d : Nd) : Bool := d.na.any (fun c => decide (c = 0))
/-- The error, and the bytes. -/
def putN (L : List Nd) : Int × List Int := if L.any zeroIn = true then (1, []) else if 65536 < (flatN L).length then (13, []) else (0, flatN L)
/-! ### Get -/
def numAt (zs : List Int) (p : Nat) : Nat := (num (piece zs p 4)).toNat
/-- The bytes of a name, the byte behind it and its padding. -/
def nameOk (zs : List Int) (p n : Nat) : Bool := (List.range (upN n)).all fun i => decide ((zs.getD (p + i) 0 = 0) = (n ≤ i + 1))
/-- The padding behind the bytes. -/
def padOk (zs : List Int) (p d : Nat) : Bool := (List.range (upN d)).all fun i => decide (i < d ∨ zs.getD (p + i) 0 = 0)
/-- What is told from place p on, behind the notes of out. -/
def loopN (zs : List Int) : Nat → Nat → List Nd → Int × List Nd
  | 0, _, _ => (10, [])
  | f + 1, p, out =>
    if zs.length ≤ p then (0, out)
    else if zs.length < p + 12 then (10, [])
    else if numAt zs p = 0 then (11, [])
    else if zs.length < p + 12 + upN (numAt zs p) then (10, [])
    else if nameOk zs (p + 12) (numAt zs p) = false then (11, [])
    else if zs.length < p + 12 + upN (numAt zs p) + upN (numAt zs (p + 4)) then (10, [])
    else if padOk zs (p + 12 + upN (numAt zs p)) (numAt zs (p + 4)) = false then (11, [])
    else loopN zs f (p + 12 + upN (numAt zs p) + upN (numAt zs (p + 4))) (out ++ [⟨piece zs (p + 12) (numAt zs p - 1), (numAt zs (p + 8) : Nat), piece zs (p + 12 + upN (numAt zs p)) (numAt zs (p + 4))⟩])
def getN (zs : List Int) : Int × List Nd := if 65536 < zs.length then (13, []) else loopN zs (zs.length + 1) 0 []
/-! ### Find -/
def isN (name : List Int) (kind : Int) (d : Nd) : Bool := decide (d.na = name) && decide (d.ty = kind)
def findN (L : List Nd) (name : List Int) (kind : Int) : Option (List Int) := (L.find? (isN name kind)).map Nd.de
end Go.Proofs.Ytkgakdlalmmdiaa
