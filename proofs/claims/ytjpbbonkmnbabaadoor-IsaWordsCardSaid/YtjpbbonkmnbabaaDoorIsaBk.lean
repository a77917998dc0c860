/-
  What is proved here: plain words: what is encoded is decoded; what is told as a text is read.
  Conditions: none; nothing here speaks of the program.
-/
import Derived.Test.YtjpbbonkmnbabaaDoorIsaCod
namespace Go.Proofs.YtjpbbonkmnbabaaDoor
open Go.RowKit
set_option linter.unusedVariables false
set_option linter.unusedSimpArgs false

theorem cut_enc {i : In} (h : mayI i = true) : cutI (encI i).1 = i := by
  obtain ⟨h0, h1, h2, h3, h4⟩ := mayI_bd h
  obtain ⟨op, a, b, c, m⟩ := i
  simp only at h0 h1 h2 h3 h4
  rw [encI_yes h]
  unfold cutI
  simp only [In.mk.injEq]
  by_cases hm : m < 0
  · rw [if_pos hm]
    refine ⟨by omega, by omega, by omega, by omega, ?_⟩
    rw [if_pos (by omega)]; omega
  · rw [if_neg hm]
    refine ⟨by omega, by omega, by omega, by omega, ?_⟩
    rw [if_neg (by omega)]; omega
theorem dec_enc {i : In} (h : mayI i = true) : decI (encI i).1 = (i, 0) := by
  have hc := cut_enc h
  rw [decI_yes (by rw [hc]; exact Prod.ext rfl (by rw [encI_yes h])), hc]
theorem enc_dec {x : Int} (h : (decI x).2 = 0) : encI (decI x).1 = (x, 0) := by
  by_cases e : encI (cutI x) = (x, 0)
  · rw [decI_yes e]; exact e
  · rw [decI_no e] at h; cases h
theorem dec_zero {x : Int} (h : ¬ (decI x).2 = 0) : (decI x).1 = In.zero := by
  by_cases e : encI (cutI x) = (x, 0)
  · rw [decI_yes e] at h; exact absurd rfl h
  · rw [decI_no e]
/-! ### numbers -/
theorem bs_append (s t : ByteArray) : bs (s ++ t) = bs s ++ bs t := by
  unfold bs
  rw [ByteArray.data_append, Array.toList_append, List.map_append]
theorem bs_digB {n : Nat} (h : n < 10) : bs (digB n) = [(48 + n : Int)] := by
  unfold bs digB
  simp
  omega
theorem readL_step {s : ByteArray} {f i : Nat} {n c : Int} (hi : i < s.size) (hc : (bs s).getD i 0 = c) (h0 : 48 ≤ c) (h1 : c ≤ 57) (hn : n ≤ 1000000000000) : readL s (f + 1) i n = readL s f (i + 1) (n * 10 + c - 48) := by
  conv => lhs; unfold readL
  rw [if_neg (by omega), hc, if_neg (by omega)]
theorem read_num (n : Nat) : n ≤ 10000000000000 → ∀ (s : ByteArray) (A R : List Int), bs s = A ++ (bs (numB n) ++ R) → ∀ f, readL s (f + (numB n).size) A.length 0 = readL s f (A.length + (numB n).size) n := by
  induction n using Nat.strongRecOn with
  | ind n ih =>
    intro hn s A R hs f
    have hsz := congrArg List.length hs
    rw [bs_len, List.length_append, List.length_append, bs_len] at hsz
    by_cases h : n < 10
    · rw [numB_small h] at hs hsz ⊢
      rw [digB_size] at hsz ⊢
      rw [readL_step (c := 48 + n) (by omega) (by rw [hs, bs_digB h, List.getD_eq_getElem?_getD, List.getElem?_append_right (Nat.le_refl _), Nat.sub_self]; rfl) (by omega) (by omega) (by decide)]
      congr 1; omega
    · have hg := numB_great h
      rw [hg] at hs
      rw [bs_append, List.append_assoc] at hs
      have h1 := ih (n / 10) (by omega) (by omega) s A (bs (digB (n % 10)) ++ R) hs (f + 1)
      have hz : (numB n).size = (numB (n / 10)).size + 1 := by rw [hg, ByteArray.size_append, digB_size]
      rw [hz] at hsz ⊢
      rw [show f + ((numB (n / 10)).size + 1) = f + 1 + (numB (n / 10)).size by omega, h1]
      rw [readL_step (c := 48 + (n % 10 : Nat)) (by omega) (by
        rw [hs, bs_digB (show n % 10 < 10 by omega), List.getD_eq_getElem?_getD, List.getElem?_append_right (by omega), Nat.add_sub_cancel_left, List.getElem?_append_right (by rw [bs_len]; exact Nat.le_refl _), bs_len, Nat.sub_self]
        rfl) (by omega) (by omega) (by omega)]
      congr 1; omega
theorem bs_numB_first (n : Nat) : ∃ c r, bs (numB n) = c :: r ∧ 48 ≤ c ∧ c ≤ 57 := by
  induction n using Nat.strongRecOn with
  | ind n ih =>
    by_cases h : n < 10
    · rw [numB_small h, bs_digB h]; exact ⟨_, _, rfl, by omega, by omega⟩
    · obtain ⟨c, r, e, h0, h1⟩ := ih (n / 10) (by omega)
      rw [numB_great h, bs_append, e]
      exact ⟨c, _, rfl, h0, h1⟩
theorem read_number {v : Int} (h0 : -2147483648 ≤ v) (h1 : v ≤ 2147483647) : readI (numberI v) = v := by
  by_cases hneg : v < 0
  · have hN : numberI v = ⟨#[45]⟩ ++ numB (-v).toNat := by unfold numberI; rw [if_pos hneg]
    have hb : bs (numberI v) = [45] ++ (bs (numB (-v).toNat) ++ []) := by rw [hN, bs_append, List.append_nil]; rfl
    have hng : negI (numberI v) = true := by
      unfold negI
      rw [decide_eq_true_eq, hb]
      refine ⟨?_, rfl⟩
      have := congrArg List.length hb
      rw [bs_len] at this
      simp at this; omega
    have hz : (numberI v).size = 1 + (numB (-v).toNat).size := by rw [hN, ByteArray.size_append]; rfl
    have hr := read_num (-v).toNat (by omega) (numberI v) [45] [] hb 2
    have hr2 : readL (numberI v) 2 (([45] : List Int).length + (numB (-v).toNat).size) ((-v).toNat : Int) = some ((-v).toNat : Int) := by
      unfold readL
      rw [if_pos (by rw [hz]; exact Nat.le_refl _)]
    rw [hr2] at hr
    have hr3 : readL (numberI v) ((numberI v).size + 1) (if negI (numberI v) = true then 1 else 0) 0 = some ((-v).toNat : Int) := by
      rw [hng, hz]; simp only [if_true]
      rw [show 1 + (numB (-v).toNat).size + 1 = 2 + (numB (-v).toNat).size by omega]; exact hr
    rw [readI_some hr3, hng]
    simp only [if_true]
    rw [show -(((-v).toNat : Nat) : Int) = v by omega, if_pos rfl]
  · have hN : numberI v = numB v.toNat := by unfold numberI; rw [if_neg hneg]
    have hb : bs (numberI v) = [] ++ (bs (numB v.toNat) ++ []) := by rw [hN, List.append_nil]; rfl
    obtain ⟨c, r, e, c0, c1⟩ := bs_numB_first v.toNat
    have hng : negI (numberI v) = false := by
      unfold negI
      rw [decide_eq_false_iff_not, hN, e]
      rintro ⟨-, h⟩
      have : c = 45 := h
      omega
    have hr := read_num v.toNat (by omega) (numberI v) [] [] hb 1
    have hr2 : readL (numberI v) 1 (([] : List Int).length + (numB v.toNat).size) (v.toNat : Int) = some (v.toNat : Int) := by
      unfold readL
      rw [if_pos (by rw [hN]; simp)]
    rw [hr2] at hr
    have hr3 : readL (numberI v) ((numberI v).size + 1) (if negI (numberI v) = true then 1 else 0) 0 = some (v.toNat : Int) := by
      rw [hng, hN] at *
      simp only [Bool.false_eq_true, if_false]
      rw [show (numB v.toNat).size + 1 = 1 + (numB v.toNat).size by omega]; exact hr
    rw [readI_some hr3, hng]
    simp only [Bool.false_eq_true, if_false]
    rw [show ((v.toNat : Nat) : Int) = v by omega, if_pos rfl]
/-! ### words -/
/-- A word: bytes, no blank. -/
structure IsW (W : List Int) : Prop where
  ne : 0 < W.length
  no : ∀ c ∈ W, c ≠ 32
/-- Words with a blank between them. -/
def joinW : List (List Int) → List Int
  | [] => []
  | [W] => W
  | W :: V :: r => W ++ (32 :: joinW (V :: r))
theorem getD_at {s : ByteArray} {A W R : List Int} (hs : bs s = A ++ (W ++ R)) {j : Nat} (hj : j < W.length) : (bs s).getD (A.length + j) 0 = W.getD j 0 := by
  rw [hs, List.getD_eq_getElem?_getD, List.getElem?_append_right (by omega), Nat.add_sub_cancel_left, List.getElem?_append_left hj, List.getD_eq_getElem?_getD]
theorem split_word {s : ByteArray} {A W R : List Int} (hs : bs s = A ++ (W ++ R)) (hW : IsW W) (out : List ByteArray) (f : Nat) :
    ∀ k, k ≤ W.length → splitL s (f + k) (A.length + (W.length - k)) A.length out = splitL s f (A.length + W.length) A.length out := by
  have hsz := congrArg List.length hs
  rw [bs_len, List.length_append, List.length_append] at hsz
  intro k
  induction k with
  | zero => intro _; rfl
  | succ k ih =>
    intro hk
    have hlt : W.length - (k + 1) < W.length := by omega
    have hb := getD_at hs hlt
    have hne : W.getD (W.length - (k + 1)) 0 ≠ 32 := by
      rw [List.getD_eq_getElem?_getD, List.getElem?_eq_getElem hlt]
      exact hW.no _ (List.getElem_mem hlt)
    rw [← Nat.add_assoc]
    conv => lhs; unfold splitL
    rw [if_neg (by omega), if_neg (by rw [hb]; exact fun h => h.elim (fun h => by omega) (fun h => hne h))]
    rw [show A.length + (W.length - (k + 1)) + 1 = A.length + (W.length - k) by omega]
    exact ih (by omega)
theorem extract_at {s : ByteArray} {A W R : List Int} (hs : bs s = A ++ (W ++ R)) : bs (s.extract A.length (A.length + W.length)) = W := by
  have hsz := congrArg List.length hs
  rw [bs_len, List.length_append, List.length_append] at hsz
  have h1 : bs (s.extract A.length (A.length + W.length)) = piece (bs s) A.length W.length := by
    unfold bs piece
    rw [ByteArray.data_extract, Array.toList_extract]
    simp [List.map_take, List.map_drop]
  rw [h1, hs]
  unfold piece
  rw [List.drop_left, List.take_left]
theorem split_all {s : ByteArray} : ∀ (L : List ByteArray) (A : List Int) (out : List ByteArray) (f : Nat), L ≠ [] → (∀ t ∈ L, IsW (bs t)) → bs s = A ++ joinW (L.map bs) → s.size + 2 ≤ A.length + f → splitL s f A.length A.length out = out ++ L
  | [], A, out, f, h, _, _, _ => absurd rfl h
  | [t], A, out, f, _, hw, hs, hf => by
    have hW := hw t (by simp)
    have hs2 : bs s = A ++ (bs t ++ []) := by rw [List.append_nil]; exact hs
    have hsz := congrArg List.length hs2
    rw [bs_len, List.length_append, List.length_append, List.length_nil] at hsz
    have h1 := split_word hs2 hW out (f - (bs t).length) (bs t).length (Nat.le_refl _)
    rw [Nat.sub_self, Nat.add_zero, show f - (bs t).length + (bs t).length = f by omega] at h1
    rw [h1]
    obtain ⟨g, hg⟩ : ∃ g, f - (bs t).length = g + 1 + 1 := ⟨f - (bs t).length - 2, by omega⟩
    rw [hg]
    conv => lhs; unfold splitL
    rw [if_neg (by omega), if_pos (.inl (by omega)), if_pos (by have := hW.ne; omega)]
    conv => lhs; unfold splitL
    rw [if_pos (by omega), bs_inj (extract_at hs2)]
  | t :: u :: L, A, out, f, _, hw, hs, hf => by
    have hW := hw t (by simp)
    have hs2 : bs s = A ++ (bs t ++ (32 :: joinW ((u :: L).map bs))) := hs
    have hsz := congrArg List.length hs2
    rw [bs_len, List.length_append, List.length_append, List.length_cons] at hsz
    have h1 := split_word hs2 hW out (f - (bs t).length) (bs t).length (Nat.le_refl _)
    rw [Nat.sub_self, Nat.add_zero, show f - (bs t).length + (bs t).length = f by omega] at h1
    rw [h1]
    obtain ⟨g, hg⟩ : ∃ g, f - (bs t).length = g + 1 := ⟨f - (bs t).length - 1, by omega⟩
    rw [hg]
    have h32 : (bs s).getD (A.length + (bs t).length) 0 = 32 := by
      rw [hs2, List.getD_eq_getElem?_getD, List.getElem?_append_right (by omega), Nat.add_sub_cancel_left, List.getElem?_append_right (Nat.le_refl _), Nat.sub_self]; rfl
    conv => lhs; unfold splitL
    rw [if_neg (by omega), if_pos (.inr h32), if_pos (by have := hW.ne; omega), bs_inj (extract_at hs2)]
    have hA : A.length + (bs t).length + 1 = (A ++ (bs t ++ [32])).length := by simp [Nat.add_assoc]
    rw [hA]
    rw [split_all (u :: L) (A ++ (bs t ++ [32])) (out ++ [t]) g (by simp) (fun x hx => hw x (by simp at hx ⊢; exact .inr hx)) (by rw [hs2]; simp) (by rw [← hA]; omega)]
    simp
theorem split_join {s : ByteArray} {L : List ByteArray} (h0 : L ≠ []) (hw : ∀ t ∈ L, IsW (bs t)) (hs : bs s = joinW (L.map bs)) : splitI s = L := by
  unfold splitI
  have := split_all (s := s) L [] [] (s.size + 2) h0 hw (by simpa using hs) (by simp)
  simpa using this
theorem joinW_snoc {L : List (List Int)} (h : L ≠ []) (W : List Int) : joinW (L ++ [W]) = joinW L ++ (32 :: W) := by
  induction L with
  | nil => exact absurd rfl h
  | cons x r ih =>
    cases r with
    | nil => rfl
    | cons y r =>
      show x ++ (32 :: joinW ((y :: r) ++ [W])) = (x ++ (32 :: joinW (y :: r))) ++ (32 :: W)
      rw [ih (by simp)]
      simp
theorem isW_num (v : Int) : IsW (bs (numberI v)) := by
  have hn : ∀ n : Nat, IsW (bs (numB n)) := by
    intro n
    induction n using Nat.strongRecOn with
    | ind n ih =>
      by_cases h : n < 10
      · rw [numB_small h, bs_digB h]
        exact ⟨by simp, fun c hc => by rw [List.mem_singleton.1 hc]; omega⟩
      · have h1 := ih (n / 10) (by omega)
        rw [numB_great h, bs_append, bs_digB (show n % 10 < 10 by omega)]
        refine ⟨by rw [List.length_append]; have := h1.ne; omega, fun c hc => ?_⟩
        rcases List.mem_append.1 hc with hc | hc
        · exact h1.no c hc
        · rw [List.mem_singleton.1 hc]; omega
  unfold numberI
  split
  · have h1 := hn (-v).toNat
    rw [bs_append]
    refine ⟨by rw [List.length_append]; have := h1.ne; omega, fun c hc => ?_⟩
    rcases List.mem_append.1 hc with hc | hc
    · have : c = 45 := by simpa [bs] using hc
      omega
    · exact h1.no c hc
  · exact hn _
theorem words_ok : ∀ k : Fin 42, (wordI k.val).size ≠ 0 → (0 < (bs (wordI k.val)).length ∧ (∀ c ∈ bs (wordI k.val), c ≠ 32)) ∧ opI (wordI k.val) = k.val := by decide
theorem word_ok {op : Int} (h0 : 0 ≤ op) (h1 : op ≤ 41) (h : (wordI op).size ≠ 0) : IsW (bs (wordI op)) ∧ opI (wordI op) = op := by
  obtain ⟨k, rfl⟩ : ∃ k : Nat, op = (k : Int) := ⟨op.toNat, by omega⟩
  obtain ⟨⟨w1, w2⟩, w3⟩ := words_ok ⟨k, by omega⟩ h
  exact ⟨⟨w1, w2⟩, w3⟩
/-- The words of an instruction's text. -/
def addW (L : List ByteArray) (h v : Int) : List ByteArray := if h % 2 = 1 then L ++ [numberI v] else L
theorem addW_ne {L : List ByteArray} (h : L ≠ []) (x v : Int) : addW L x v ≠ [] := by unfold addW; split <;> simp [h]
theorem addW_ok {L : List ByteArray} (h : ∀ t ∈ L, IsW (bs t)) (x v : Int) : ∀ t ∈ addW L x v, IsW (bs t) := by
  unfold addW
  split
  · intro t ht
    rcases List.mem_append.1 ht with ht | ht
    · exact h t ht
    · rw [List.mem_singleton.1 ht]; exact isW_num v
  · exact h
theorem addW_join {L : List ByteArray} {s : ByteArray} (h : L ≠ []) (hs : bs s = joinW (L.map bs)) (x v : Int) : bs (addF s x v) = joinW ((addW L x v).map bs) := by
  unfold addF addW
  split
  · rw [bs_append, bs_append, List.map_append, List.map_singleton, joinW_snoc (by simpa using h), hs]
    rfl
  · exact hs
theorem parse_text {i : In} (h : mayI i = true) : parseI (textI i).1 = (i, 0) := by
  have hall := h
  obtain ⟨h0, h1, h2, h3, h4⟩ := mayI_bd h
  unfold mayI okF okImm at hall
  simp only [Bool.and_eq_true, decide_eq_true_eq] at hall
  obtain ⟨z0, ⟨za, -⟩, ⟨zb, -⟩, ⟨zc, -⟩, zm, -⟩ := hall
  obtain ⟨hw, ho⟩ := word_ok h0.1 h0.2 z0
  have hop0 : i.op ≠ 0 := by
    intro e
    rw [e] at z0
    exact z0 rfl
  obtain ⟨op, a, b, c, m⟩ := i
  simp only at h0 h1 h2 h3 h4 z0 za zb zc zm hw ho hop0
  have hj : bs (textI ⟨op, a, b, c, m⟩).1 = joinW ((addW (addW (addW (addW [wordI op] (hasI op) a) (hasI op / 2) b) (hasI op / 2 / 2) c) (hasI op / 2 / 2 / 2) m).map bs) := by
    rw [textI_yes h]
    refine addW_join (addW_ne (addW_ne (addW_ne (by simp) _ _) _ _) _ _) ?_ _ _
    refine addW_join (addW_ne (addW_ne (by simp) _ _) _ _) ?_ _ _
    refine addW_join (addW_ne (by simp) _ _) ?_ _ _
    exact addW_join (by simp) rfl _ _
  have hsp := split_join (addW_ne (addW_ne (addW_ne (addW_ne (by simp) _ _) _ _) _ _) _ _) (addW_ok (addW_ok (addW_ok (addW_ok (fun t ht => by rw [List.mem_singleton.1 ht]; exact hw) _ _) _ _) _ _) _ _) hj
  have r1 := read_number (v := a) (by omega) (by omega)
  have r2 := read_number (v := b) (by omega) (by omega)
  have r3 := read_number (v := c) (by omega) (by omega)
  have r4 := read_number (v := m) h4.1 h4.2
  have hfst : ∀ x : List ByteArray, ∀ p q, (x.getD 0 ⟨#[]⟩ = wordI op ∧ 0 < x.length) → ((addW x p q).getD 0 ⟨#[]⟩ = wordI op ∧ 0 < (addW x p q).length) := by
    intro x p q hx
    unfold addW
    split
    · refine ⟨?_, by rw [List.length_append]; omega⟩
      rw [List.getD_eq_getElem?_getD, List.getElem?_append_left hx.2, ← List.getD_eq_getElem?_getD]; exact hx.1
    · exact hx
  have hf0 := hfst _ (hasI op / 2 / 2 / 2) m (hfst _ (hasI op / 2 / 2) c (hfst _ (hasI op / 2) b (hfst [wordI op] (hasI op) a ⟨rfl, by simp⟩)))
  have hfi : fieldsI (addW (addW (addW (addW [wordI op] (hasI op) a) (hasI op / 2) b) (hasI op / 2 / 2) c) (hasI op / 2 / 2 / 2) m) op = some ⟨op, a, b, c, m⟩ := by
    unfold fieldsI
    have ha : ¬ hasI op % 2 = 1 → a = 0 := fun h => za (by omega)
    have hb : ¬ hasI op / 2 % 2 = 1 → b = 0 := fun h => zb (by omega)
    have hc : ¬ hasI op / 2 / 2 % 2 = 1 → c = 0 := fun h => zc (by omega)
    have hm : ¬ hasI op / 2 / 2 / 2 % 2 = 1 → m = 0 := fun h => zm (by omega)
    clear hsp hj hf0 hfst za zb zc zm h0 h1 h2 h3 h4
    generalize hasI op = H at *
    by_cases e1 : H % 2 = 1 <;> by_cases e2 : H / 2 % 2 = 1 <;> by_cases e3 : H / 2 / 2 % 2 = 1 <;> by_cases e4 : H / 2 / 2 / 2 % 2 = 1
    all_goals (try (have q := ha e1; subst q))
    all_goals (try (have q := hb e2; subst q))
    all_goals (try (have q := hc e3; subst q))
    all_goals (try (have q := hm e4; subst q))
    all_goals simp [addW, takeF, e1, e2, e3, e4, r1, r2, r3, r4, h]
  unfold parseI
  rw [hsp, if_neg (by omega), hf0.1, ho, if_neg hop0, hfi]
theorem numB_lt : ∀ (k n : Nat), n < 10 ^ (k + 1) → (numB n).size ≤ k + 1
  | 0, n, h => by rw [numB_small (by simpa using h), digB_size]; exact Nat.le_refl _
  | k + 1, n, h => by
    by_cases h9 : n < 10
    · rw [numB_small h9, digB_size]; omega
    · have := numB_lt k (n / 10) (by rw [Nat.pow_succ] at h; omega)
      rw [numB_great h9, ByteArray.size_append, digB_size]; omega
theorem number_lt {v : Int} (h0 : -2147483648 ≤ v) (h1 : v ≤ 2147483647) : (numberI v).size ≤ 11 := by
  have e : (10 : Nat) ^ (9 + 1) = 10000000000 := by decide
  unfold numberI
  split
  · have := numB_lt 9 (-v).toNat (by omega)
    have h2 : ByteArray.size ⟨#[45]⟩ = 1 := rfl
    rw [ByteArray.size_append]; omega
  · have := numB_lt 9 v.toNat (by omega)
    omega
theorem addF_lt {s : ByteArray} {h v : Int} {n : Nat} (hs : s.size ≤ n) (h0 : -2147483648 ≤ v) (h1 : v ≤ 2147483647) : (addF s h v).size ≤ n + 12 := by
  unfold addF
  split
  · have := number_lt h0 h1
    have h2 : ByteArray.size ⟨#[32]⟩ = 1 := rfl
    rw [ByteArray.size_append, ByteArray.size_append]; omega
  · omega
theorem textI_size {i : In} (h : mayI i = true) : (textI i).1.size ≤ 1000000 := by
  obtain ⟨h0, h1, h2, h3, h4⟩ := mayI_bd h
  rw [textI_yes h]
  have := addF_lt (h := hasI i.op / 2 / 2 / 2) (addF_lt (h := hasI i.op / 2 / 2) (addF_lt (h := hasI i.op / 2) (addF_lt (h := hasI i.op) (wordI_size i.op) (show -2147483648 ≤ i.a by omega) (by omega)) (show -2147483648 ≤ i.b by omega) (by omega)) (show -2147483648 ≤ i.c by omega) (by omega)) h4.1 h4.2
  show (addF (addF (addF (addF (wordI i.op) (hasI i.op) i.a) (hasI i.op / 2) i.b) (hasI i.op / 2 / 2) i.c) (hasI i.op / 2 / 2 / 2) i.imm).size ≤ 1000000
  omega
theorem err_same (i : In) : (encI i).2 = (textI i).2 ∧ ((encI i).2 = 0 ∨ (encI i).2 = 42) ∧ ((encI i).2 = 0 → mayI i = true) := by
  cases h : mayI i with
  | true => rw [encI_yes h, textI_yes h]; exact ⟨rfl, .inl rfl, fun _ => rfl⟩
  | false => rw [encI_no h, textI_no h]; exact ⟨rfl, .inr rfl, fun e => by cases e⟩
end Go.Proofs.YtjpbbonkmnbabaaDoor
