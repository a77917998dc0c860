/-
  What is proved here: plain words: entries' bytes; what Get makes of bytes; what is put is got, whatever stands behind.
  Conditions: none; nothing here speaks of the program.
-/
import Derived.Test.YtngjnbfjlchfgaaNum
namespace Go.Proofs.Ytngjnbfjlchfgaa
open Go.RowKit
set_option linter.unusedVariables false

/-! ### entries -/
def entB (e : Int × Int) : List Int := digs e.1 8 ++ digs e.2 8
theorem entB_len (e : Int × Int) : (entB e).length = 16 := by simp [entB, digs_len]
theorem entB_bd (e : Int × Int) : ∀ n ∈ entB e, 0 ≤ n ∧ n ≤ 255 := by
  intro n hn
  rcases List.mem_append.1 hn with h | h
  · exact digs_bd _ _ n h
  · exact digs_bd _ _ n h
def entsB (E : List (Int × Int)) : List Int := E.flatMap entB
theorem entsB_len : ∀ E : List (Int × Int), (entsB E).length = 16 * E.length
  | [] => rfl
  | e :: E => by
    have := entsB_len E
    unfold entsB at this ⊢
    rw [List.flatMap_cons, List.length_append, entB_len, this, List.length_cons]; omega
theorem entsB_bd (E : List (Int × Int)) : ∀ n ∈ entsB E, 0 ≤ n ∧ n ≤ 255 := by
  intro n hn
  obtain ⟨e, _, he⟩ := List.mem_flatMap.1 hn
  exact entB_bd e n he
theorem entsB_snoc (E : List (Int × Int)) (e : Int × Int) : entsB (E ++ [e]) = entsB E ++ entB e := by
  unfold entsB; rw [List.flatMap_append]; simp
theorem entsB_append (E F : List (Int × Int)) : entsB (E ++ F) = entsB E ++ entsB F := by
  unfold entsB; rw [List.flatMap_append]
/-- The tag and the value of entry number k. -/
def tagAt (zs : List Int) (k : Nat) : Int := num (piece zs (16 * k) 8)
def valAt (zs : List Int) (k : Nat) : Int := num (piece zs (16 * k + 8) 8)
theorem tagAt_bd {zs : List Int} (hb : ∀ n ∈ zs, 0 ≤ n ∧ n ≤ 255) {k : Nat} (h : 16 * k + 16 ≤ zs.length) : 0 ≤ tagAt zs k ∧ tagAt zs k ≤ 18446744073709551615 := by
  have := num_piece_lt (p := 16 * k) (k := 8) hb (by omega)
  unfold tagAt; omega
theorem valAt_bd {zs : List Int} (hb : ∀ n ∈ zs, 0 ≤ n ∧ n ≤ 255) {k : Nat} (h : 16 * k + 16 ≤ zs.length) : 0 ≤ valAt zs k ∧ valAt zs k ≤ 18446744073709551615 := by
  have := num_piece_lt (p := 16 * k + 8) (k := 8) hb (by omega)
  unfold valAt; omega
theorem piece_mid' {A B C : List Int} {p n : Nat} (hp : A.length = p) (hn : B.length = n) : piece (A ++ (B ++ C)) p n = B := by
  subst hp; subst hn
  unfold piece
  rw [List.drop_left, List.take_left]
/-- The numbers of an entry lie in their type. -/
def EntOk (e : Int × Int) : Prop := (0 ≤ e.1 ∧ e.1 ≤ 18446744073709551615) ∧ 0 ≤ e.2 ∧ e.2 ≤ 18446744073709551615
theorem at_mid (E F : List (Int × Int)) (e : Int × Int) (more : List Int) (he : EntOk e) : tagAt (entsB (E ++ e :: F) ++ more) E.length = e.1 ∧ valAt (entsB (E ++ e :: F) ++ more) E.length = e.2 := by
  have hl := entsB_len E
  have e1 : entsB (E ++ e :: F) ++ more = entsB E ++ (digs e.1 8 ++ (digs e.2 8 ++ (entsB F ++ more))) := by
    rw [entsB_append]
    unfold entsB
    rw [List.flatMap_cons]
    simp [entB]
  have e2 : entsB (E ++ e :: F) ++ more = (entsB E ++ digs e.1 8) ++ (digs e.2 8 ++ (entsB F ++ more)) := by
    rw [e1]; simp
  constructor
  · unfold tagAt
    rw [e1, piece_mid' (by omega) (digs_len _ _), num_digs he.1.1]
    have := he.1.2
    have := he.1.1
    omega
  · unfold valAt
    rw [e2, piece_mid' (by rw [List.length_append, digs_len]; omega) (digs_len _ _), num_digs he.2.1]
    have := he.2.2
    have := he.2.1
    omega

/-! ### Get -/
def tagsD : List Int := [14, 5, 10, 6, 1610612749, 7, 8]
/-- Which of the seven a tag is. -/
def idxD (t : Int) : Option Nat :=
  if t = 14 then some 0 else if t = 5 then some 1 else if t = 10 then some 2 else if t = 6 then some 3 else if t = 1610612749 then some 4 else if t = 7 then some 5 else if t = 8 then some 6 else none
theorem idxD_lt {t : Int} {i : Nat} (h : idxD t = some i) : i < 7 ∧ tagsD.getD i 0 = t := by
  unfold idxD at h
  split at h
  · injection h with h; subst h; subst_vars; decide
  · split at h
    · injection h with h; subst h; subst_vars; decide
    · split at h
      · injection h with h; subst h; subst_vars; decide
      · split at h
        · injection h with h; subst h; subst_vars; decide
        · split at h
          · injection h with h; subst h; subst_vars; decide
          · split at h
            · injection h with h; subst h; subst_vars; decide
            · split at h
              · injection h with h; subst h; subst_vars; decide
              · cases h
theorem idxD_tag {i : Nat} (h : i < 7) : idxD (tagsD.getD i 0) = some i := by
  have : i = 0 ∨ i = 1 ∨ i = 2 ∨ i = 3 ∨ i = 4 ∨ i = 5 ∨ i = 6 := by omega
  rcases this with rfl | rfl | rfl | rfl | rfl | rfl | rfl <;> rfl
theorem tagsD_pos {i : Nat} (h : i < 7) : tagsD.getD i 0 ≠ 0 ∧ tagsD.getD i 0 ≠ 1 ∧ 0 ≤ tagsD.getD i 0 ∧ tagsD.getD i 0 ≤ 18446744073709551615 := by
  have : i = 0 ∨ i = 1 ∨ i = 2 ∨ i = 3 ∨ i = 4 ∨ i = 5 ∨ i = 6 := by omega
  rcases this with rfl | rfl | rfl | rfl | rfl | rfl | rfl <;> decide
/-- What is known so far: the values of Needed, the seven others, and which of those came. -/
structure StD where
  nd : List Int
  v : List Int
  seen : List Bool
def stD0 : StD := ⟨[], [0, 0, 0, 0, 0, 0, 0], [false, false, false, false, false, false, false]⟩
/-- Whether all that must be there is there. -/
def wholeD (s : StD) : Bool := s.seen.getD 1 false && (s.seen.getD 2 false && (s.seen.getD 3 false == s.seen.getD 4 false && s.seen.getD 5 false == s.seen.getD 6 false))
/-- The error, and what the entries from number k on tell behind s. -/
def outD (zs : List Int) : Nat → Nat → StD → Int × StD
  | 0, _, _ => (10, stD0)
  | f + 1, k, s =>
    if zs.length < 16 * k + 16 then (10, stD0)
    else if tagAt zs k = 0 then (if wholeD s = true then (0, s) else (11, stD0))
    else if tagAt zs k = 1 then outD zs f (k + 1) ⟨s.nd ++ [valAt zs k], s.v, s.seen⟩
    else match idxD (tagAt zs k) with
      | none => (11, stD0)
      | some i => if s.seen.getD i false = true then (12, stD0) else outD zs f (k + 1) ⟨s.nd, s.v.set i (valAt zs k), s.seen.set i true⟩
def getDy (zs : List Int) : Int × StD := outD zs (zs.length + 1) 0 stD0
/-- One step, as a loop takes it. -/
theorem out_short {zs : List Int} {k : Nat} {s : StD} (hk : 16 * k ≤ zs.length) (h : zs.length < 16 * k + 16) : outD zs (zs.length + 1 - k) k s = (10, stD0) := by
  obtain ⟨f, hf⟩ : ∃ f, zs.length + 1 - k = f + 1 := ⟨zs.length - k, by omega⟩
  rw [hf, outD, if_pos h]
theorem out_end {zs : List Int} {k : Nat} {s : StD} (h : 16 * k + 16 ≤ zs.length) (ht : tagAt zs k = 0) : outD zs (zs.length + 1 - k) k s = if wholeD s = true then (0, s) else (11, stD0) := by
  obtain ⟨f, hf⟩ : ∃ f, zs.length + 1 - k = f + 1 := ⟨zs.length - k, by omega⟩
  rw [hf, outD, if_neg (by omega), if_pos ht]
theorem out_need {zs : List Int} {k : Nat} {s : StD} (h : 16 * k + 16 ≤ zs.length) (ht : tagAt zs k = 1) : outD zs (zs.length + 1 - k) k s = outD zs (zs.length + 1 - (k + 1)) (k + 1) ⟨s.nd ++ [valAt zs k], s.v, s.seen⟩ := by
  obtain ⟨f, hf⟩ : ∃ f, zs.length + 1 - k = f + 1 := ⟨zs.length - k, by omega⟩
  rw [hf, show zs.length + 1 - (k + 1) = f by omega, outD, if_neg (by omega), if_neg (by omega), if_pos ht]
theorem out_form {zs : List Int} {k : Nat} {s : StD} (h : 16 * k + 16 ≤ zs.length) (h0 : tagAt zs k ≠ 0) (h1 : tagAt zs k ≠ 1) (hi : idxD (tagAt zs k) = none) : outD zs (zs.length + 1 - k) k s = (11, stD0) := by
  obtain ⟨f, hf⟩ : ∃ f, zs.length + 1 - k = f + 1 := ⟨zs.length - k, by omega⟩
  rw [hf, outD, if_neg (by omega), if_neg h0, if_neg h1, hi]
theorem out_over {zs : List Int} {k i : Nat} {s : StD} (h : 16 * k + 16 ≤ zs.length) (h0 : tagAt zs k ≠ 0) (h1 : tagAt zs k ≠ 1) (hi : idxD (tagAt zs k) = some i) (hs : s.seen.getD i false = true) : outD zs (zs.length + 1 - k) k s = (12, stD0) := by
  obtain ⟨f, hf⟩ : ∃ f, zs.length + 1 - k = f + 1 := ⟨zs.length - k, by omega⟩
  rw [hf, outD, if_neg (by omega), if_neg h0, if_neg h1, hi]
  simp only [hs, if_true]
theorem out_set {zs : List Int} {k i : Nat} {s : StD} (h : 16 * k + 16 ≤ zs.length) (h0 : tagAt zs k ≠ 0) (h1 : tagAt zs k ≠ 1) (hi : idxD (tagAt zs k) = some i) (hs : s.seen.getD i false = false) :
    outD zs (zs.length + 1 - k) k s = outD zs (zs.length + 1 - (k + 1)) (k + 1) ⟨s.nd, s.v.set i (valAt zs k), s.seen.set i true⟩ := by
  obtain ⟨f, hf⟩ : ∃ f, zs.length + 1 - k = f + 1 := ⟨zs.length - k, by omega⟩
  rw [hf, show zs.length + 1 - (k + 1) = f by omega, outD, if_neg (by omega), if_neg h0, if_neg h1, hi]
  simp only [hs, Bool.false_eq_true, if_false]
/-- The state stays in its form. -/
structure StOk (s : StD) : Prop where
  v : s.v.length = 7
  seen : s.seen.length = 7
theorem stD0_ok : StOk stD0 := ⟨rfl, rfl⟩
theorem StOk.need {s : StD} (h : StOk s) (x : Int) : StOk ⟨s.nd ++ [x], s.v, s.seen⟩ := ⟨h.v, h.seen⟩
theorem StOk.set {s : StD} (h : StOk s) (i : Nat) (x : Int) : StOk ⟨s.nd, s.v.set i x, s.seen.set i true⟩ := ⟨by simp [h.v], by simp [h.seen]⟩

/-! ### Put -/
/-- Whether the reference puts the one of number i. -/
def keepD (V : List Int) (i : Nat) : Bool := !(decide (i = 0 ∧ V.getD 0 0 = 0) || (decide ((i = 3 ∨ i = 4) ∧ V.getD 4 0 = 0) || decide (5 ≤ i ∧ V.getD 6 0 = 0)))
def sevenD (V : List Int) (k : Nat) : List (Int × Int) := ((List.range k).filter (keepD V)).map fun i => (tagsD.getD i 0, V.getD i 0)
theorem sevenD_succ (V : List Int) (k : Nat) : sevenD V (k + 1) = sevenD V k ++ (if keepD V k = true then [(tagsD.getD k 0, V.getD k 0)] else []) := by
  unfold sevenD
  rw [List.range_succ, List.filter_append, List.map_append]
  congr 1
  by_cases h : keepD V k = true
  · simp [h]
  · simp [h]
/-- The entries of anything. -/
def putEs (N V : List Int) : List (Int × Int) := N.map (fun x => (1, x)) ++ (sevenD V 7 ++ [(0, 0)])
def putBy (N V : List Int) : List Int := entsB (putEs N V)

/-! ### what is put is got -/
theorem sevenD_more (V : List Int) (k : Nat) : ∀ j, k ≤ j → ∃ R, sevenD V j = sevenD V k ++ R
  | 0, h => by obtain rfl : k = 0 := by omega
               exact ⟨[], by simp⟩
  | j + 1, h => by
    by_cases e : k = j + 1
    · subst e; exact ⟨[], by simp⟩
    · obtain ⟨R, hR⟩ := sevenD_more V k j (by omega)
      exact ⟨R ++ (if keepD V j = true then [(tagsD.getD j 0, V.getD j 0)] else []), by rw [sevenD_succ, hR, List.append_assoc]⟩
def vK (V : List Int) (k : Nat) : List Int := (List.range 7).map fun i => if decide (i < k) && keepD V i then V.getD i 0 else 0
def sK (V : List Int) (k : Nat) : List Bool := (List.range 7).map fun i => decide (i < k) && keepD V i
theorem vK_getD {V : List Int} {k i : Nat} (h : i < 7) : (vK V k).getD i 0 = if (decide (i < k) && keepD V i) = true then V.getD i 0 else 0 := by
  rw [List.getD_eq_getElem?_getD, vK, List.getElem?_map, List.getElem?_range h]; rfl
theorem sK_getD {V : List Int} {k i : Nat} (h : i < 7) : (sK V k).getD i false = (decide (i < k) && keepD V i) := by
  rw [List.getD_eq_getElem?_getD, sK, List.getElem?_map, List.getElem?_range h]; rfl
theorem vK_succ {V : List Int} {k : Nat} (h : k < 7) : vK V (k + 1) = if keepD V k = true then (vK V k).set k (V.getD k 0) else vK V k := by
  have hl : ∀ j, (vK V j).length = 7 := fun j => by simp [vK]
  have hlr : (if keepD V k = true then (vK V k).set k (V.getD k 0) else vK V k).length = 7 := by split <;> simp [hl]
  apply List.ext_getElem (by rw [hl, hlr])
  intro i h1 h2
  have hi : i < 7 := by rw [hl] at h1; exact h1
  have e1 := vK_getD (V := V) (k := k + 1) hi
  have e2 := vK_getD (V := V) (k := k) hi
  rw [List.getD_eq_getElem?_getD, List.getElem?_eq_getElem (by rw [hl]; exact hi)] at e1 e2
  simp only [Option.getD_some] at e1 e2
  rw [e1]
  by_cases hk : keepD V k = true
  · simp only [hk, if_true]
    rw [List.getElem_set]
    by_cases e : k = i
    · subst e; simp [hk]
    · rw [if_neg e, e2]
      have : decide (i < k + 1) = decide (i < k) := by
        by_cases h : i < k
        · simp [h]; omega
        · simp [h]; omega
      rw [this]
  · simp only [hk, if_false, Bool.false_eq_true]
    rw [e2]
    by_cases e : k = i
    · subst e; simp [hk]
    · have : decide (i < k + 1) = decide (i < k) := by
        by_cases h : i < k
        · simp [h]; omega
        · simp [h]; omega
      rw [this]
theorem sK_succ {V : List Int} {k : Nat} (h : k < 7) : sK V (k + 1) = if keepD V k = true then (sK V k).set k true else sK V k := by
  have hl : ∀ j, (sK V j).length = 7 := fun j => by simp [sK]
  have hlr : (if keepD V k = true then (sK V k).set k true else sK V k).length = 7 := by split <;> simp [hl]
  apply List.ext_getElem (by rw [hl, hlr])
  intro i h1 h2
  have hi : i < 7 := by rw [hl] at h1; exact h1
  have e1 := sK_getD (V := V) (k := k + 1) hi
  have e2 := sK_getD (V := V) (k := k) hi
  rw [List.getD_eq_getElem?_getD, List.getElem?_eq_getElem (by rw [hl]; exact hi)] at e1 e2
  simp only [Option.getD_some] at e1 e2
  rw [e1]
  by_cases hk : keepD V k = true
  · simp only [hk, if_true]
    rw [List.getElem_set]
    by_cases e : k = i
    · subst e; simp [hk]
    · rw [if_neg e, e2]
      have : decide (i < k + 1) = decide (i < k) := by
        by_cases h : i < k
        · simp [h]; omega
        · simp [h]; omega
      rw [this]
  · simp only [hk, if_false, Bool.false_eq_true]
    rw [e2]
    by_cases e : k = i
    · subst e; simp [hk]
    · have : decide (i < k + 1) = decide (i < k) := by
        by_cases h : i < k
        · simp [h]; omega
        · simp [h]; omega
      rw [this]
theorem entsB_room (E : List (Int × Int)) (more : List Int) {k : Nat} (h : k < E.length) : 16 * k + 16 ≤ (entsB E ++ more).length := by
  rw [List.length_append, entsB_len]; omega
/-- Over the entries of Needed. -/
theorem out_needs {more : List Int} {s : StD} : ∀ (N : List Int) (E F : List (Int × Int)) (nd : List Int), (∀ x ∈ N, 0 ≤ x ∧ x ≤ 18446744073709551615) →
    outD (entsB (E ++ (N.map (fun x => (1, x)) ++ F)) ++ more) ((entsB (E ++ (N.map (fun x => (1, x)) ++ F)) ++ more).length + 1 - E.length) E.length ⟨nd, s.v, s.seen⟩ =
      outD (entsB (E ++ (N.map (fun x => (1, x)) ++ F)) ++ more) ((entsB (E ++ (N.map (fun x => (1, x)) ++ F)) ++ more).length + 1 - (E.length + N.length)) (E.length + N.length) ⟨nd ++ N, s.v, s.seen⟩
  | [], E, F, nd, _ => by simp
  | x :: N, E, F, nd, h => by
    have hx := h x (by simp)
    have hm := at_mid E (N.map (fun x => (1, x)) ++ F) (1, x) more ⟨⟨by simp, by simp⟩, hx⟩
    have hr := entsB_room (E ++ (1, x) :: (N.map (fun x => (1, x)) ++ F)) more (k := E.length) (by simp)
    have e1 : E ++ ((x :: N).map (fun x => ((1 : Int), x)) ++ F) = E ++ (1, x) :: (N.map (fun x => (1, x)) ++ F) := by simp
    have e2 : E ++ (1, x) :: (N.map (fun x => ((1 : Int), x)) ++ F) = (E ++ [(1, x)]) ++ (N.map (fun x => (1, x)) ++ F) := by simp
    rw [e1, out_need hr hm.1, hm.2, e2]
    have ih := out_needs (more := more) (s := s) N (E ++ [(1, x)]) F (nd ++ [x]) (fun y hy => h y (by simp [hy]))
    have e3 : (E ++ [((1 : Int), x)]).length = E.length + 1 := by simp
    rw [e3] at ih
    simp only
    rw [ih]
    have e4 : E.length + 1 + N.length = E.length + (x :: N).length := by simp; omega
    have e5 : nd ++ [x] ++ N = nd ++ (x :: N) := by simp
    rw [e4, e5]
theorem out_sevens {more N V : List Int} (hV : ∀ i, 0 ≤ V.getD i 0 ∧ V.getD i 0 ≤ 18446744073709551615) : ∀ (k : Nat), k ≤ 7 →
    outD (putBy N V ++ more) ((putBy N V ++ more).length + 1 - N.length) N.length ⟨N, vK V 0, sK V 0⟩ =
      outD (putBy N V ++ more) ((putBy N V ++ more).length + 1 - (N.length + (sevenD V k).length)) (N.length + (sevenD V k).length) ⟨N, vK V k, sK V k⟩
  | 0, _ => rfl
  | k + 1, hk => by
    rw [out_sevens hV k (by omega), vK_succ (by omega), sK_succ (by omega)]
    by_cases h : keepD V k = true
    · obtain ⟨R, hR⟩ := sevenD_more V (k + 1) 7 (by omega)
      have hs := sevenD_succ V k
      rw [if_pos h] at hs
      have e1 : putBy N V = entsB ((N.map (fun x => ((1 : Int), x)) ++ sevenD V k) ++ (tagsD.getD k 0, V.getD k 0) :: (R ++ [(0, 0)])) := by
        unfold putBy putEs
        rw [hR, hs]; simp
      have hlen : (N.map (fun x => ((1 : Int), x)) ++ sevenD V k).length = N.length + (sevenD V k).length := by simp
      have hp := tagsD_pos (i := k) (by omega)
      have hm := at_mid (N.map (fun x => ((1 : Int), x)) ++ sevenD V k) (R ++ [(0, 0)]) (tagsD.getD k 0, V.getD k 0) more ⟨hp.2.2, hV k⟩
      have hr := entsB_room ((N.map (fun x => ((1 : Int), x)) ++ sevenD V k) ++ (tagsD.getD k 0, V.getD k 0) :: (R ++ [(0, 0)])) more (k := N.length + (sevenD V k).length) (by simp)
      rw [← e1, hlen] at hm
      rw [← e1] at hr
      rw [out_set hr (by rw [hm.1]; exact hp.1) (by rw [hm.1]; exact hp.2.1) (by rw [hm.1]; exact idxD_tag (by omega)) (by simp only; rw [sK_getD (by omega)]; simp), hm.2, if_pos h, if_pos h, hs]
      simp only [List.length_append, List.length_cons, List.length_nil, Nat.zero_add, Nat.add_assoc]
    · have hs := sevenD_succ V k
      rw [if_neg h, List.append_nil] at hs
      rw [if_neg h, if_neg h, hs]
/-- What is put is got, whatever stands behind. -/
theorem dyn_back {more N V : List Int} (hN : ∀ x ∈ N, 0 ≤ x ∧ x ≤ 18446744073709551615) (hV : ∀ i, 0 ≤ V.getD i 0 ∧ V.getD i 0 ≤ 18446744073709551615) :
    getDy (putBy N V ++ more) = (0, ⟨N, vK V 7, sK V 7⟩) := by
  have h1 := out_needs (more := more) (s := stD0) N [] (sevenD V 7 ++ [(0, 0)]) [] hN
  simp only [List.nil_append, List.length_nil, Nat.zero_add, Nat.sub_zero] at h1
  have h2 := out_sevens (more := more) (N := N) hV 7 (Nat.le_refl _)
  have hv0 : vK V 0 = stD0.v := rfl
  have hs0 : sK V 0 = stD0.seen := rfl
  have e1 : putBy N V = entsB ((N.map (fun x => ((1 : Int), x)) ++ sevenD V 7) ++ (0, 0) :: []) := by
    unfold putBy putEs; simp
  have hlen : (N.map (fun x => ((1 : Int), x)) ++ sevenD V 7).length = N.length + (sevenD V 7).length := by simp
  have hm := at_mid (N.map (fun x => ((1 : Int), x)) ++ sevenD V 7) [] (0, 0) more ⟨by decide, by decide⟩
  have hr := entsB_room ((N.map (fun x => ((1 : Int), x)) ++ sevenD V 7) ++ (0, 0) :: []) more (k := N.length + (sevenD V 7).length) (by simp)
  rw [← e1, hlen] at hm
  rw [← e1] at hr
  unfold getDy
  show outD (putBy N V ++ more) ((putBy N V ++ more).length + 1) 0 ⟨[], stD0.v, stD0.seen⟩ = _
  unfold putBy putEs
  rw [h1]
  have e2 : entsB (N.map (fun x => ((1 : Int), x)) ++ (sevenD V 7 ++ [(0, 0)])) = putBy N V := rfl
  rw [e2, ← hv0, ← hs0, h2, out_end hr hm.1]
  have hw : wholeD ⟨N, vK V 7, sK V 7⟩ = true := by
    unfold wholeD
    simp only [sK_getD (show 1 < 7 by decide), sK_getD (show 2 < 7 by decide), sK_getD (show 3 < 7 by decide), sK_getD (show 4 < 7 by decide), sK_getD (show 5 < 7 by decide), sK_getD (show 6 < 7 by decide)]
    simp [keepD]
  rw [if_pos hw]
/-- The seven as they were, where those that are left out are 0. -/
theorem vK_all {V : List Int} (hl : V.length = 7) (h3 : V.getD 4 0 = 0 → V.getD 3 0 = 0) (h5 : V.getD 6 0 = 0 → V.getD 5 0 = 0) : vK V 7 = V := by
  apply List.ext_getElem (by simp [vK, hl])
  intro i h1 h2
  have hi : i < 7 := by omega
  have e := vK_getD (V := V) (k := 7) hi
  have e2 : V[i] = V.getD i 0 := by rw [List.getD_eq_getElem?_getD, List.getElem?_eq_getElem h2]; rfl
  rw [List.getD_eq_getElem?_getD, List.getElem?_eq_getElem (by simp [vK]; exact hi)] at e
  simp only [Option.getD_some] at e
  rw [e, e2]
  have : i = 0 ∨ i = 1 ∨ i = 2 ∨ i = 3 ∨ i = 4 ∨ i = 5 ∨ i = 6 := by omega
  generalize hg0 : V.getD 0 0 = a0 at *
  generalize hg3 : V.getD 3 0 = a3 at *
  generalize hg4 : V.getD 4 0 = a4 at *
  generalize hg5 : V.getD 5 0 = a5 at *
  generalize hg6 : V.getD 6 0 = a6 at *
  rcases this with rfl | rfl | rfl | rfl | rfl | rfl | rfl
  all_goals simp only [keepD, hg0, hg3, hg4, hg5, hg6]
  all_goals first
    | (simp; done)
    | (by_cases q : a0 = 0 <;> simp [q]; done)
    | (by_cases q : a4 = 0 <;> simp [q, h3]; done)
    | (by_cases q : a6 = 0 <;> simp [q, h5]; done)
end Go.Proofs.Ytngjnbfjlchfgaa
