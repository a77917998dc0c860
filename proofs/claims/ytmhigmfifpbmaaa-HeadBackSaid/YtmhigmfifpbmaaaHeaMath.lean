/-
  What is proved here: plain words: the 64 bytes of a head; which numbers bytes hold; what Get makes of bytes.
  Conditions: none; nothing here speaks of the program.
-/
import Derived.Test.YtmhigmfifpbmaaaNum
namespace Go.Proofs.Ytmhigmfifpbmaaa
open Go.RowKit
set_option linter.unusedVariables false

theorem piece_mid (A B C : List Int) : piece (A ++ (B ++ C)) A.length B.length = B := by
  unfold piece
  rw [List.drop_left, List.take_left]

def hd0 : List Int := [127, 69, 76, 70, 2, 1, 1, 0, 0, 0, 0, 0, 0, 0, 0, 0]
/-- The 64 bytes. -/
def enc (k e s c : Int) : List Int :=
  hd0 ++ (digs k 2 ++ (digs 19823 2 ++ (digs 1 4 ++ (digs e 8 ++ (digs s 8 ++ (digs 0 8 ++ (digs 0 4 ++ (digs 64 2 ++ (digs 56 2 ++ (digs c 2 ++ (digs 0 2 ++ (digs 0 2 ++ digs 0 2))))))))))))
theorem enc_len (k e s c : Int) : (enc k e s c).length = 64 := by
  simp only [enc, List.length_append, digs_len]; rfl
theorem enc_bd (k e s c : Int) : ∀ n ∈ enc k e s c, 0 ≤ n ∧ n ≤ 255 := by
  intro n hn
  simp only [enc, List.mem_append] at hn
  rcases hn with h | h | h | h | h | h | h | h | h | h | h | h | h | h
  · revert n; decide
  all_goals exact digs_bd _ _ n h
theorem enc_kind (k e s c : Int) : piece (enc k e s c) 16 2 = digs k 2 := by
  have := piece_mid hd0 (digs k 2) (digs 19823 2 ++ (digs 1 4 ++ (digs e 8 ++ (digs s 8 ++ (digs 0 8 ++ (digs 0 4 ++ (digs 64 2 ++ (digs 56 2 ++ (digs c 2 ++ (digs 0 2 ++ (digs 0 2 ++ digs 0 2)))))))))))
  rwa [digs_len] at this
theorem enc_entry (k e s c : Int) : piece (enc k e s c) 24 8 = digs e 8 := by
  have := piece_mid (hd0 ++ (digs k 2 ++ (digs 19823 2 ++ digs 1 4))) (digs e 8) (digs s 8 ++ (digs 0 8 ++ (digs 0 4 ++ (digs 64 2 ++ (digs 56 2 ++ (digs c 2 ++ (digs 0 2 ++ (digs 0 2 ++ digs 0 2))))))))
  simp only [List.append_assoc, List.length_append, digs_len] at this
  exact this
theorem enc_segs (k e s c : Int) : piece (enc k e s c) 32 8 = digs s 8 := by
  have := piece_mid (hd0 ++ (digs k 2 ++ (digs 19823 2 ++ (digs 1 4 ++ digs e 8)))) (digs s 8) (digs 0 8 ++ (digs 0 4 ++ (digs 64 2 ++ (digs 56 2 ++ (digs c 2 ++ (digs 0 2 ++ (digs 0 2 ++ digs 0 2)))))))
  simp only [List.append_assoc, List.length_append, digs_len] at this
  exact this
theorem enc_count (k e s c : Int) : piece (enc k e s c) 56 2 = digs c 2 := by
  have := piece_mid (hd0 ++ (digs k 2 ++ (digs 19823 2 ++ (digs 1 4 ++ (digs e 8 ++ (digs s 8 ++ (digs 0 8 ++ (digs 0 4 ++ (digs 64 2 ++ digs 56 2))))))))) (digs c 2) (digs 0 2 ++ (digs 0 2 ++ digs 0 2))
  simp only [List.append_assoc, List.length_append, digs_len] at this
  exact this

/-- Whether a head may be. -/
def validB (k c : Int) : Bool := decide (2 ≤ k) && (decide (k ≤ 4) && (decide (0 ≤ c) && decide (c ≤ 64)))
theorem validB_iff {k c : Int} : validB k c = true ↔ 2 ≤ k ∧ k ≤ 4 ∧ 0 ≤ c ∧ c ≤ 64 := by simp [validB]

/-- The numbers of some bytes. -/
def kOf (zs : List Int) : Int := num (piece zs 16 2)
def eOf (zs : List Int) : Int := num (piece zs 24 8)
def sOf (zs : List Int) : Int := num (piece zs 32 8)
def cOf (zs : List Int) : Int := num (piece zs 56 2)
/-- Whether bytes begin with a head's. -/
def isHead (zs : List Int) : Bool := validB (kOf zs) (cOf zs) && decide (enc (kOf zs) (eOf zs) (sOf zs) (cOf zs) = piece zs 0 64)

theorem piece_app {A B : List Int} {p n : Nat} (h : p + n ≤ A.length) : piece (A ++ B) p n = piece A p n := by
  unfold piece
  rw [List.drop_append_of_le_length (by omega), List.take_append_of_le_length (by rw [List.length_drop]; omega)]
theorem piece_all {A : List Int} {n : Nat} (h : A.length = n) : piece A 0 n = A := by
  unfold piece
  rw [List.drop_zero, List.take_of_length_le (by omega)]

/-- What is put is got, whatever stands behind. -/
theorem head_put {k e s c : Int} (h : validB k c = true) (e0 : 0 ≤ e) (e1 : e ≤ 18446744073709551615) (s0 : 0 ≤ s) (s1 : s ≤ 18446744073709551615) (more : List Int) :
    kOf (enc k e s c ++ more) = k ∧ eOf (enc k e s c ++ more) = e ∧ sOf (enc k e s c ++ more) = s ∧ cOf (enc k e s c ++ more) = c ∧ isHead (enc k e s c ++ more) = true := by
  have hl := enc_len k e s c
  obtain ⟨k0, k1, c0, c1⟩ := validB_iff.1 h
  have hk : kOf (enc k e s c ++ more) = k := by
    unfold kOf; rw [piece_app (by omega), enc_kind, num_digs (by omega)]; omega
  have he : eOf (enc k e s c ++ more) = e := by
    unfold eOf; rw [piece_app (by omega), enc_entry, num_digs (by omega)]; omega
  have hs : sOf (enc k e s c ++ more) = s := by
    unfold sOf; rw [piece_app (by omega), enc_segs, num_digs (by omega)]; omega
  have hc : cOf (enc k e s c ++ more) = c := by
    unfold cOf; rw [piece_app (by omega), enc_count, num_digs (by omega)]; omega
  refine ⟨hk, he, hs, hc, ?_⟩
  unfold isHead
  rw [hk, he, hs, hc, h, piece_app (by omega), piece_all hl]
  simp
/-- The numbers of bytes, as they lie. -/
theorem kOf_bd {zs : List Int} (hb : ∀ n ∈ zs, 0 ≤ n ∧ n ≤ 255) (h : 64 ≤ zs.length) : 0 ≤ kOf zs ∧ kOf zs ≤ 65535 := by
  have := num_piece_lt (p := 16) (k := 2) hb (by omega)
  unfold kOf; omega
theorem cOf_bd {zs : List Int} (hb : ∀ n ∈ zs, 0 ≤ n ∧ n ≤ 255) (h : 64 ≤ zs.length) : 0 ≤ cOf zs ∧ cOf zs ≤ 65535 := by
  have := num_piece_lt (p := 56) (k := 2) hb (by omega)
  unfold cOf; omega
theorem eOf_bd {zs : List Int} (hb : ∀ n ∈ zs, 0 ≤ n ∧ n ≤ 255) (h : 64 ≤ zs.length) : 0 ≤ eOf zs ∧ eOf zs ≤ 18446744073709551615 := by
  have := num_piece_lt (p := 24) (k := 8) hb (by omega)
  unfold eOf; omega
theorem sOf_bd {zs : List Int} (hb : ∀ n ∈ zs, 0 ≤ n ∧ n ≤ 255) (h : 64 ≤ zs.length) : 0 ≤ sOf zs ∧ sOf zs ≤ 18446744073709551615 := by
  have := num_piece_lt (p := 32) (k := 8) hb (by omega)
  unfold sOf; omega

/-- A head, as a value; none. -/
def headV (k e s c : Int) : Value := .agg #[.int .i64 k, .int .u64 e, .int .u64 s, .int .i64 c]
/-- What Get returns. -/
def getV (zs : List Int) : Value :=
  if zs.length < 64 then .tuple #[headV 0 0 0 0, .int .i64 10]
  else if isHead zs then .tuple #[headV (kOf zs) (eOf zs) (sOf zs) (cOf zs), .int .i64 0]
  else .tuple #[headV 0 0 0 0, .int .i64 11]
end Go.Proofs.Ytmhigmfifpbmaaa
