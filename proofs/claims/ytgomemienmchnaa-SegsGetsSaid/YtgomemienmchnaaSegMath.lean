/-
  What is proved here: plain words: a segment's numbers; its 56 bytes; what Get makes of bytes; what Check, Find, Place and Span tell of a list of segments; and that the program's ways of reckoning and the reference's come to the same.
  Conditions: none; nothing here speaks of the program.
-/
import Derived.Test.YtgomemienmchnaaNum
namespace Go.Proofs.Ytgomemienmchnaa
open Go.RowKit
set_option linter.unusedVariables false

/-- A segment's numbers. -/
structure Sg where
  ty : Int
  fl : Int
  ot : Int
  va : Int
  fi : Int
  me : Int
  al : Int
/-- They lie in their types. -/
structure Sg.Ok (s : Sg) : Prop where
  ty : 0 ≤ s.ty ∧ s.ty ≤ 4294967295
  fl : 0 ≤ s.fl ∧ s.fl ≤ 4294967295
  ot : 0 ≤ s.ot ∧ s.ot ≤ 18446744073709551615
  va : 0 ≤ s.va ∧ s.va ≤ 18446744073709551615
  fi : 0 ≤ s.fi ∧ s.fi ≤ 18446744073709551615
  me : 0 ≤ s.me ∧ s.me ≤ 18446744073709551615
  al : 0 ≤ s.al ∧ s.al ≤ 18446744073709551615
def Sg.cells (s : Sg) : Array Value := #[.int .u32 s.ty, .int .u32 s.fl, .int .u64 s.ot, .int .u64 s.va, .int .u64 s.fi, .int .u64 s.me, .int .u64 s.al]
def Sg.val (s : Sg) : Value := .agg #[.int .u32 s.ty, .int .u32 s.fl, .int .u64 s.ot, .int .u64 s.va, .int .u64 s.fi, .int .u64 s.me, .int .u64 s.al]
def sg0 : Sg := ⟨0, 0, 0, 0, 0, 0, 0⟩
theorem sg0_ok : sg0.Ok := by constructor <;> decide

/-! ### bytes -/
def encS (s : Sg) : List Int := digs s.ty 4 ++ (digs s.fl 4 ++ (digs s.ot 8 ++ (digs s.va 8 ++ (digs s.va 8 ++ (digs s.fi 8 ++ (digs s.me 8 ++ digs s.al 8))))))
theorem encS_len (s : Sg) : (encS s).length = 56 := by simp only [encS, List.length_append, digs_len]
theorem encS_bd (s : Sg) : ∀ n ∈ encS s, 0 ≤ n ∧ n ≤ 255 := by
  intro n hn
  simp only [encS, List.mem_append] at hn
  rcases hn with h | h | h | h | h | h | h | h
  all_goals exact digs_bd _ _ n h
theorem piece_mid (A B C : List Int) : piece (A ++ (B ++ C)) A.length B.length = B := by
  unfold piece
  rw [List.drop_left, List.take_left]
theorem piece_at {A B C : List Int} {p n : Nat} (hp : A.length = p) (hn : B.length = n) : piece (A ++ (B ++ C)) p n = B := by
  subst hp; subst hn; exact piece_mid A B C
/-- The segment that bytes begin with, whether it is one or not. -/
def getS (zs : List Int) : Sg := ⟨num (piece zs 0 4), num (piece zs 4 4), num (piece zs 8 8), num (piece zs 16 8), num (piece zs 32 8), num (piece zs 40 8), num (piece zs 48 8)⟩
def againS (zs : List Int) : Int := num (piece zs 24 8)
theorem piece_app {A B : List Int} {p n : Nat} (h : p + n ≤ A.length) : piece (A ++ B) p n = piece A p n := by
  unfold piece
  rw [List.drop_append_of_le_length (by omega), List.take_append_of_le_length (by rw [List.length_drop]; omega)]
theorem piece_piece {zs : List Int} {p n q k : Nat} (h : q + k ≤ n) : piece (piece zs p n) q k = piece zs (p + q) k := by
  unfold piece
  rw [List.drop_take, List.take_take, List.drop_drop, Nat.min_eq_left (by omega)]
theorem piece_all {A : List Int} {n : Nat} (h : A.length = n) : piece A 0 n = A := by
  unfold piece
  rw [List.drop_zero, List.take_of_length_le (by omega)]
theorem getS_bd {zs : List Int} (hb : ∀ n ∈ zs, 0 ≤ n ∧ n ≤ 255) (h : 56 ≤ zs.length) : (getS zs).Ok ∧ 0 ≤ againS zs ∧ againS zs ≤ 18446744073709551615 := by
  have h0 := num_piece_lt (p := 0) (k := 4) hb (by omega)
  have h1 := num_piece_lt (p := 4) (k := 4) hb (by omega)
  have h2 := num_piece_lt (p := 8) (k := 8) hb (by omega)
  have h3 := num_piece_lt (p := 16) (k := 8) hb (by omega)
  have h4 := num_piece_lt (p := 32) (k := 8) hb (by omega)
  have h5 := num_piece_lt (p := 40) (k := 8) hb (by omega)
  have h6 := num_piece_lt (p := 48) (k := 8) hb (by omega)
  have h7 := num_piece_lt (p := 24) (k := 8) hb (by omega)
  unfold againS
  exact ⟨⟨by simp only [getS]; omega, by simp only [getS]; omega, by simp only [getS]; omega, by simp only [getS]; omega, by simp only [getS]; omega, by simp only [getS]; omega, by simp only [getS]; omega⟩, by omega, by omega⟩
theorem num_digs4 {x : Int} (h : 0 ≤ x ∧ x ≤ 4294967295) : num (digs x 4) = x := by rw [num_digs h.1]; omega
theorem num_digs8 {x : Int} (h : 0 ≤ x ∧ x ≤ 18446744073709551615) : num (digs x 8) = x := by rw [num_digs h.1]; omega
/-- What is put is got, whatever stands behind. -/
theorem getS_enc {s : Sg} (h : s.Ok) (more : List Int) : getS (encS s ++ more) = s ∧ againS (encS s ++ more) = s.va := by
  have hl := encS_len s
  have e0 : piece (encS s ++ more) 0 4 = digs s.ty 4 := by
    rw [piece_app (by omega)]
    exact piece_at (A := []) rfl (digs_len _ _)
  have e1 : piece (encS s ++ more) 4 4 = digs s.fl 4 := by
    rw [piece_app (by omega)]
    exact piece_at (A := digs s.ty 4) (digs_len _ _) (digs_len _ _)
  have e2 : piece (encS s ++ more) 8 8 = digs s.ot 8 := by
    rw [piece_app (by omega)]
    have := piece_at (A := digs s.ty 4 ++ digs s.fl 4) (B := digs s.ot 8) (C := digs s.va 8 ++ (digs s.va 8 ++ (digs s.fi 8 ++ (digs s.me 8 ++ digs s.al 8)))) (p := 8) (by simp [digs_len]) (digs_len _ _)
    simp only [List.append_assoc] at this
    exact this
  have e3 : piece (encS s ++ more) 16 8 = digs s.va 8 := by
    rw [piece_app (by omega)]
    have := piece_at (A := digs s.ty 4 ++ (digs s.fl 4 ++ digs s.ot 8)) (B := digs s.va 8) (C := digs s.va 8 ++ (digs s.fi 8 ++ (digs s.me 8 ++ digs s.al 8))) (p := 16) (by simp [digs_len]) (digs_len _ _)
    simp only [List.append_assoc] at this
    exact this
  have e4 : piece (encS s ++ more) 24 8 = digs s.va 8 := by
    rw [piece_app (by omega)]
    have := piece_at (A := digs s.ty 4 ++ (digs s.fl 4 ++ (digs s.ot 8 ++ digs s.va 8))) (B := digs s.va 8) (C := digs s.fi 8 ++ (digs s.me 8 ++ digs s.al 8)) (p := 24) (by simp [digs_len]) (digs_len _ _)
    simp only [List.append_assoc] at this
    exact this
  have e5 : piece (encS s ++ more) 32 8 = digs s.fi 8 := by
    rw [piece_app (by omega)]
    have := piece_at (A := digs s.ty 4 ++ (digs s.fl 4 ++ (digs s.ot 8 ++ (digs s.va 8 ++ digs s.va 8)))) (B := digs s.fi 8) (C := digs s.me 8 ++ digs s.al 8) (p := 32) (by simp [digs_len]) (digs_len _ _)
    simp only [List.append_assoc] at this
    exact this
  have e6 : piece (encS s ++ more) 40 8 = digs s.me 8 := by
    rw [piece_app (by omega)]
    have := piece_at (A := digs s.ty 4 ++ (digs s.fl 4 ++ (digs s.ot 8 ++ (digs s.va 8 ++ (digs s.va 8 ++ digs s.fi 8))))) (B := digs s.me 8) (C := digs s.al 8) (p := 40) (by simp [digs_len]) (digs_len _ _)
    simp only [List.append_assoc] at this
    exact this
  have e7 : piece (encS s ++ more) 48 8 = digs s.al 8 := by
    rw [piece_app (by omega)]
    have := piece_at (A := digs s.ty 4 ++ (digs s.fl 4 ++ (digs s.ot 8 ++ (digs s.va 8 ++ (digs s.va 8 ++ (digs s.fi 8 ++ digs s.me 8)))))) (B := digs s.al 8) (C := []) (p := 48) (by simp [digs_len]) (digs_len _ _)
    simp only [List.append_assoc, List.append_nil] at this
    exact this
  unfold getS againS
  rw [e0, e1, e2, e3, e4, e5, e6, e7, num_digs4 h.ty, num_digs4 h.fl, num_digs8 h.ot, num_digs8 h.va, num_digs8 h.fi, num_digs8 h.me, num_digs8 h.al]
  exact ⟨rfl, rfl⟩

/-! ### the list -/
/-- The error of one by itself. -/
def knownB (k : Int) : Bool := k == 0 || (k == 1 || (k == 2 || (k == 4 || k == 7)))
def aloneS (s : Sg) (size : Int) : Int :=
  if knownB s.ty = false ∨ 7 < s.fl then 11
  else if s.ty = 0 then 0
  else if size < s.ot ∨ size - s.ot < s.fi then 10
  else if s.me < s.fi then 11
  else if 4294967296 < s.va ∨ 4294967296 - s.va < s.me then 13
  else if s.ty = 1 ∧ (s.va % 256 ≠ s.ot % 256 ∨ s.me = 0) then 11
  else 0
/-- The first page, and the first behind the last one. -/
def firstS (s : Sg) : Int := s.va / 256 * 256
def behindS (s : Sg) : Int := (s.va + s.me + 255) / 256 * 256
/-- What is behind the last one that is loaded. -/
def lastEnd (pre : List Sg) : Int := pre.foldl (fun e s => if s.ty = 1 then behindS s else e) 0
theorem lastEnd_snoc (pre : List Sg) (s : Sg) : lastEnd (pre ++ [s]) = if s.ty = 1 then behindS s else lastEnd pre := by
  unfold lastEnd
  rw [List.foldl_append]
  rfl
/-- The error of one behind others. -/
def step1 (pre : List Sg) (s : Sg) (size : Int) : Int :=
  if aloneS s size ≠ 0 then aloneS s size
  else if s.ty = 1 then (if firstS s < lastEnd pre then 12 else 0)
  else if s.ty = 2 ∨ s.ty = 7 then (if pre.any (fun k => k.ty == s.ty) = true then 12 else 0)
  else 0
/-- Whether q and n lie in p and m. -/
def contB (p m q n : Int) : Bool := decide (p ≤ q) && (decide (q - p ≤ m) && decide (n ≤ m - (q - p)))
def wrap64 (x : Int) : Int := IntKind.u64.wrap x
/-- Whether k, loaded, has what s has in the file, at its address. -/
def inB (s k : Sg) : Bool := (k.ty == 1) && (contB k.ot k.fi s.ot s.fi && (IntKind.u64.wrap (k.va - k.ot) == IntKind.u64.wrap (s.va - s.ot)))
def step2 (L : List Sg) (s : Sg) : Int :=
  if (s.ty = 2 ∨ s.ty = 7) ∧ s.fi ≠ 0 then (if L.any (inB s) = true then 0 else 11) else 0
/-- The first that is not 0, of n from i on. -/
def firstErr (f : Nat → Int) : Nat → Nat → Int
  | _, 0 => 0
  | i, n + 1 => if f i = 0 then firstErr f (i + 1) n else f i
theorem firstErr_at {f : Nat → Int} : ∀ {n i k : Nat}, (∀ j, i ≤ j → j < k → f j = 0) → i ≤ k → k < i + n → f k ≠ 0 → firstErr f i n = f k
  | 0, i, k, _, h1, h2, _ => by omega
  | n + 1, i, k, h, h1, h2, h3 => by
    rw [firstErr]
    by_cases e : i = k
    · subst e; rw [if_neg h3]
    · rw [if_pos (h i (Nat.le_refl _) (by omega)), firstErr_at (fun j hj hk => h j (by omega) hk) (by omega) (by omega) h3]
theorem firstErr_no {f : Nat → Int} : ∀ {n i : Nat}, (∀ j, i ≤ j → j < i + n → f j = 0) → firstErr f i n = 0
  | 0, _, _ => rfl
  | n + 1, i, h => by
    rw [firstErr, if_pos (h i (Nat.le_refl _) (by omega))]
    exact firstErr_no (fun j hj hk => h j (by omega) (by omega))
theorem firstErr_zero {f : Nat → Int} : ∀ {n i : Nat}, firstErr f i n = 0 → ∀ j, i ≤ j → j < i + n → f j = 0
  | 0, _, _, j, h1, h2 => by omega
  | n + 1, i, h, j, h1, h2 => by
    rw [firstErr] at h
    by_cases hi : f i = 0
    · rw [if_pos hi] at h
      by_cases e : j = i
      · subst e; exact hi
      · exact firstErr_zero h j (by omega) (by omega)
    · rw [if_neg hi] at h; exact absurd h hi
def at1 (L : List Sg) (size : Int) (i : Nat) : Int := step1 (L.take i) (L.getD i sg0) size
def at2 (L : List Sg) (i : Nat) : Int := step2 L (L.getD i sg0)
def checkS (L : List Sg) (size : Int) : Int := if firstErr (at1 L size) 0 L.length = 0 then firstErr (at2 L) 0 L.length else firstErr (at1 L size) 0 L.length
theorem chk_at1 {L : List Sg} {size : Int} {k : Nat} (h : ∀ j, j < k → at1 L size j = 0) (hk : k < L.length) (he : at1 L size k ≠ 0) : checkS L size = at1 L size k := by
  have := firstErr_at (f := at1 L size) (n := L.length) (i := 0) (k := k) (fun j _ hj => h j hj) (Nat.zero_le _) (by omega) he
  unfold checkS
  rw [this, if_neg he]
theorem chk_at2 {L : List Sg} {size : Int} {k : Nat} (h1 : ∀ j, j < L.length → at1 L size j = 0) (h : ∀ j, j < k → at2 L j = 0) (hk : k < L.length) (he : at2 L k ≠ 0) : checkS L size = at2 L k := by
  unfold checkS
  rw [firstErr_no (fun j _ hj => h1 j (by omega)), if_pos rfl, firstErr_at (fun j _ hj => h j hj) (Nat.zero_le _) (by omega) he]
theorem chk_ok {L : List Sg} {size : Int} (h1 : ∀ j, j < L.length → at1 L size j = 0) (h : ∀ j, j < L.length → at2 L j = 0) : checkS L size = 0 := by
  unfold checkS
  rw [firstErr_no (fun j _ hj => h1 j (by omega)), if_pos rfl, firstErr_no (fun j _ hj => h j (by omega))]
theorem chk_all {L : List Sg} {size : Int} (h : checkS L size = 0) : ∀ j, j < L.length → at1 L size j = 0 := by
  intro j hj
  unfold checkS at h
  by_cases h1 : firstErr (at1 L size) 0 L.length = 0
  · exact firstErr_zero h1 j (Nat.zero_le _) (by omega)
  · rw [if_neg h1] at h; exact absurd h h1
theorem take_snoc {L : List Sg} {k : Nat} (h : k < L.length) : L.take (k + 1) = L.take k ++ [L.getD k sg0] := by
  rw [List.take_succ_eq_append_getElem h, List.getD_eq_getElem?_getD, List.getElem?_eq_getElem h]; rfl
theorem getD_mem {L : List Sg} {k : Nat} (h : k < L.length) : L.getD k sg0 ∈ L := by
  rw [List.getD_eq_getElem?_getD, List.getElem?_eq_getElem h]; exact List.getElem_mem h
/-- What is known of one that may be by itself. -/
structure Alone0 (s : Sg) (size : Int) : Prop where
  ot : s.ty ≠ 0 → s.ot ≤ size ∧ s.fi ≤ size - s.ot
  va : s.ty ≠ 0 → s.va ≤ 4294967296 ∧ s.me ≤ 4294967296 - s.va
  fi : s.ty ≠ 0 → s.fi ≤ s.me
  one : s.ty = 1 → s.va % 256 = s.ot % 256 ∧ s.me ≠ 0
theorem alone0 {s : Sg} {size : Int} (h : aloneS s size = 0) : Alone0 s size := by
  unfold aloneS at h
  split at h
  · cases h
  · split at h
    · exact ⟨fun h => absurd ‹s.ty = 0› h, fun h => absurd ‹s.ty = 0› h, fun h => absurd ‹s.ty = 0› h, fun h => by omega⟩
    · split at h
      · cases h
      · split at h
        · cases h
        · split at h
          · cases h
          · split at h
            · cases h
            · refine ⟨fun _ => by omega, fun _ => by omega, fun _ => by omega, fun h1 => ?_⟩
              by_cases h2 : s.va % 256 = s.ot % 256
              · exact ⟨h2, fun h3 => by simp_all⟩
              · simp_all
theorem step1_alone {pre : List Sg} {s : Sg} {size : Int} (h : step1 pre s size = 0) : aloneS s size = 0 := by
  unfold step1 at h
  split at h
  · exact h
  · omega
/-- Get's answer. -/
def getV (zs : List Int) : Value :=
  if zs.length < 56 then .tuple #[sg0.val, .int .i64 10]
  else if againS zs = (getS zs).va then .tuple #[(getS zs).val, .int .i64 0] else .tuple #[sg0.val, .int .i64 11]
end Go.Proofs.Ytgomemienmchnaa
