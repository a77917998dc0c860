/-
  What is proved here: plain words: a relocation's 24 bytes; what Table makes of bytes; what Check and Value tell.
  Conditions: none; nothing here speaks of the program.
-/
import Derived.Test.YtdfghnnpjoikeaaRelWords
import Derived.Test.YtdfghnnpjoikeaaNum
import Derived.Laws.Bits64
import Derived.Laws.BitsAllLaws
namespace Go.Proofs.Ytdfghnnpjoikeaa
open Go.RowKit
set_option linter.unusedVariables false

theorem piece_mid' {A B C : List Int} {p n : Nat} (hp : A.length = p) (hn : B.length = n) : piece (A ++ (B ++ C)) p n = B := by
  subst hp; subst hn
  unfold piece
  rw [List.drop_left, List.take_left]
/-! ### bytes -/
def infoL (s : Rl) : Int := s.ty + s.sy * 4294967296
def encL (s : Rl) : List Int := digs s.of 8 ++ (digs (infoL s) 8 ++ digs (IntKind.u64.wrap s.ad) 8)
theorem encL_len (s : Rl) : (encL s).length = 24 := by simp only [encL, List.length_append, digs_len]
theorem encL_bd (s : Rl) : ∀ n ∈ encL s, 0 ≤ n ∧ n ≤ 255 := by
  intro n hn
  simp only [encL, List.mem_append] at hn
  rcases hn with h | h | h
  all_goals exact digs_bd _ _ n h
/-- The relocation number k of bytes. -/
def relAt (zs : List Int) (k : Nat) : Rl := ⟨num (piece zs (24 * k) 8), num (piece zs (24 * k + 8) 8) % 4294967296, num (piece zs (24 * k + 8) 8) / 4294967296, IntKind.i64.wrap (num (piece zs (24 * k + 16) 8))⟩
theorem relAt_ok {zs : List Int} (hb : ∀ n ∈ zs, 0 ≤ n ∧ n ≤ 255) {k : Nat} (h : 24 * k + 24 ≤ zs.length) : (relAt zs k).Ok := by
  have h0 := num_piece_lt (p := 24 * k) (k := 8) hb (by omega)
  have h3 := num_piece_lt (p := 24 * k + 8) (k := 8) hb (by omega)
  have h4 := num_piece_lt (p := 24 * k + 16) (k := 8) hb (by omega)
  constructor <;> simp only [relAt]
  · omega
  · omega
  · omega
  · rw [IntKind.wrap_i64]; omega
def tabR (zs : List Int) (n : Nat) : List Rl := (List.range n).map (relAt zs)
theorem tabR_len (zs : List Int) (n : Nat) : (tabR zs n).length = n := by simp [tabR]
theorem tabR_succ (zs : List Int) (k : Nat) : tabR zs (k + 1) = tabR zs k ++ [relAt zs k] := by simp [tabR, List.range_succ]
theorem tabR_ok {zs : List Int} {n : Nat} (hb : ∀ x ∈ zs, 0 ≤ x ∧ x ≤ 255) (hl : 24 * n ≤ zs.length) : ∀ s ∈ tabR zs n, s.Ok := by
  intro s hs
  simp only [tabR, List.mem_map, List.mem_range] at hs
  obtain ⟨k, hk, rfl⟩ := hs
  exact relAt_ok hb (by omega)
/-- The error, and the relocations. -/
def tabL (zs : List Int) : Int × List Rl := if zs.length % 24 = 0 then (0, tabR zs (zs.length / 24)) else (10, [])
theorem tabL_ok {zs : List Int} (hb : ∀ x ∈ zs, 0 ≤ x ∧ x ≤ 255) : ∀ s ∈ (tabL zs).2, s.Ok := by
  unfold tabL
  split
  · exact tabR_ok hb (by omega)
  · intro s hs; cases hs
theorem relAt_mid (A C : List Int) (s : Rl) (h : s.Ok) (k : Nat) (hA : A.length = 24 * k) : relAt (A ++ (encL s ++ C)) k = s := by
  obtain ⟨⟨a0, a1⟩, ⟨b0, b1⟩, ⟨c0, c1⟩, ⟨d0, d1⟩⟩ := h
  obtain ⟨of, ty, sy, ad⟩ := s
  simp only at a0 a1 b0 b1 c0 c1 d0 d1
  have E : A ++ (encL ⟨of, ty, sy, ad⟩ ++ C) = A ++ (digs of 8 ++ (digs (ty + sy * 4294967296) 8 ++ (digs (IntKind.u64.wrap ad) 8 ++ C))) := by simp [encL, infoL]
  have E2 : A ++ (encL ⟨of, ty, sy, ad⟩ ++ C) = (A ++ digs of 8) ++ (digs (ty + sy * 4294967296) 8 ++ (digs (IntKind.u64.wrap ad) 8 ++ C)) := by simp [encL, infoL]
  have E3 : A ++ (encL ⟨of, ty, sy, ad⟩ ++ C) = (A ++ digs of 8 ++ digs (ty + sy * 4294967296) 8) ++ (digs (IntKind.u64.wrap ad) 8 ++ C) := by simp [encL, infoL]
  have l2 : (A ++ digs of 8).length = 24 * k + 8 := by simp [digs_len, hA]
  have l3 : (A ++ digs of 8 ++ digs (ty + sy * 4294967296) 8).length = 24 * k + 16 := by simp [digs_len, hA]
  have p1 : piece (A ++ (encL ⟨of, ty, sy, ad⟩ ++ C)) (24 * k) 8 = digs of 8 := by rw [E]; exact piece_mid' hA (digs_len _ _)
  have p2 : piece (A ++ (encL ⟨of, ty, sy, ad⟩ ++ C)) (24 * k + 8) 8 = digs (ty + sy * 4294967296) 8 := by rw [E2]; exact piece_mid' l2 (digs_len _ _)
  have p3 : piece (A ++ (encL ⟨of, ty, sy, ad⟩ ++ C)) (24 * k + 16) 8 = digs (IntKind.u64.wrap ad) 8 := by rw [E3]; exact piece_mid' l3 (digs_len _ _)
  have w0 : 0 ≤ IntKind.u64.wrap ad := by rw [IntKind.wrap_u64]; omega
  unfold relAt
  rw [p1, p2, p3, num_digs a0, num_digs (show 0 ≤ ty + sy * 4294967296 by omega), num_digs w0]
  have q1 : of % 256 ^ 8 = of := by omega
  have q2 : (ty + sy * 4294967296) % 256 ^ 8 % 4294967296 = ty := by omega
  have q3 : (ty + sy * 4294967296) % 256 ^ 8 / 4294967296 = sy := by omega
  have q4 : IntKind.i64.wrap (IntKind.u64.wrap ad % 256 ^ 8) = ad := by rw [IntKind.wrap_i64, IntKind.wrap_u64]; omega
  rw [q1, q2, q3, q4]
/-- What is put is read. -/
theorem tabL_one {s : Rl} (h : s.Ok) : tabL (encL s) = (0, [s]) := by
  have := relAt_mid [] [] s h 0 rfl
  rw [List.nil_append, List.append_nil] at this
  unfold tabL
  rw [encL_len, if_pos (by decide)]
  show (0, tabR (encL s) 1) = _
  rw [show tabR (encL s) 1 = [relAt (encL s) 0] from rfl, this]

/-! ### Check -/
def knownL (t : Int) : Bool := decide (t = 0 ∨ t = 1 ∨ t = 6 ∨ t = 7 ∨ t = 8 ∨ t = 16 ∨ t = 17 ∨ t = 18)
/-- The error of one. -/
def errL (s : Rl) (n : Int) : Int :=
  if knownL s.ty = false then 33
  else if 0 < s.sy ∧ (n < 0 ∨ n ≤ s.sy) then 10
  else if ((s.ty = 0 ∨ s.ty = 8) ∧ s.sy ≠ 0) ∨ (¬ (s.ty = 0 ∨ s.ty = 8) ∧ s.sy = 0) then 11
  else 0
def checkL : List Rl → Int → Int
  | [], _ => 0
  | s :: L, n => if errL s n = 0 then checkL L n else errL s n
theorem checkL_good {n : Int} : ∀ {L : List Rl}, (∀ k, k < L.length → errL (L.getD k Rl.zero) n = 0) → checkL L n = 0
  | [], _ => rfl
  | s :: L, h => by
    have h0 : errL s n = 0 := h 0 (by simp)
    unfold checkL
    rw [if_pos h0]
    exact checkL_good fun k hk => h (k + 1) (by simpa using hk)
theorem checkL_bad {n : Int} : ∀ {L : List Rl} {k : Nat}, k < L.length → (∀ j, j < k → errL (L.getD j Rl.zero) n = 0) → errL (L.getD k Rl.zero) n ≠ 0 → checkL L n = errL (L.getD k Rl.zero) n
  | [], k, hk, _, _ => by simp at hk
  | s :: L, 0, _, _, h => by
    have h' : errL s n ≠ 0 := h
    unfold checkL
    rw [if_neg h']; rfl
  | s :: L, k + 1, hk, h0, h => by
    have h1 : errL s n = 0 := h0 0 (by omega)
    unfold checkL
    rw [if_pos h1]
    exact checkL_bad (L := L) (k := k) (by simpa using hk) (fun j hj => h0 (j + 1) (by omega)) h
theorem good_upto {L : List Rl} {n : Int} {k : Nat} (h : ∀ j, j < k → errL (L.getD j Rl.zero) n = 0) (hk : errL (L.getD k Rl.zero) n = 0) : ∀ j, j < k + 1 → errL (L.getD j Rl.zero) n = 0 := by
  intro j hj
  by_cases e : j = k
  · subst e; exact hk
  · exact h j (by omega)
/-! ### Value -/
/-- The value, and the error. -/
def valL (t base symbol add : Int) : Int × Int :=
  if knownL t = false then (0, 33)
  else if t = 0 then (0, 0)
  else if t = 8 then (IntKind.u64.wrap (base + IntKind.u64.wrap add), 0)
  else if t = 6 ∨ t = 7 ∨ t = 16 then (symbol, 0)
  else (IntKind.u64.wrap (symbol + IntKind.u64.wrap add), 0)
theorem valL_err (t b c d b' c' d' : Int) : (valL t b c d).2 = (valL t b' c' d').2 := by
  unfold valL
  repeat' split
  all_goals first | rfl | contradiction
theorem valL_ok {t b c d : Int} (h : (valL t b c d).2 = 0) : knownL t = true := by
  unfold valL at h
  split at h
  · simp at h
  · rename_i q; simpa using q
theorem valL_none (b c d : Int) : valL 0 b c d = (0, 0) := by
  unfold valL
  rw [if_neg (by decide), if_pos rfl]
/-- What is written moves with base and symbol. -/
theorem valL_moves {t b c d y : Int} (hk : knownL t = true) (h0 : t ≠ 0) (c0 : 0 ≤ c ∧ c ≤ 18446744073709551615) :
    (valL t (IntKind.u64.wrap (b + y)) (IntKind.u64.wrap (c + y)) d).1 = IntKind.u64.wrap ((valL t b c d).1 + y) := by
  unfold valL
  simp only [IntKind.wrap_u64, hk, h0, Bool.true_eq_false, if_false]
  repeat' split
  all_goals simp only
  all_goals omega
theorem valL_bd {t b c d : Int} (c0 : 0 ≤ c ∧ c ≤ 18446744073709551615) : 0 ≤ (valL t b c d).1 ∧ (valL t b c d).1 ≤ 18446744073709551615 := by
  unfold valL
  simp only [IntKind.wrap_u64]
  repeat' split
  all_goals simp only
  all_goals omega
end Go.Proofs.Ytdfghnnpjoikeaa
