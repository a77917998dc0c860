/-
  What is proved here: the table of names that come twice is the table of the names; appending a slice of strings that came in.
  Conditions: none.
-/
import Derived.Test.YtncnmgmkmjikcaaNamRes
import Derived.Laws.AppendOwnNone
namespace Go.Proofs.Ytncnmgmkmjikcaa
open Go.RowKit
set_option linter.unusedVariables false

theorem nm_left {L M : List ByteArray} {i : Nat} (h : i < L.length) : nm (L ++ M) i = nm L i := by
  unfold nm
  rw [List.getD_eq_getElem?_getD, List.getElem?_append_left h, List.getD_eq_getElem?_getD]
theorem nm_right {L M : List ByteArray} (i : Nat) : nm (L ++ M) (L.length + i) = nm M i := by
  unfold nm
  rw [List.getD_eq_getElem?_getD, List.getElem?_append_right (by omega), Nat.add_sub_cancel_left, List.getD_eq_getElem?_getD]
theorem first_left {L M : List ByteArray} (s : ByteArray) : ∀ {k : Nat}, k ≤ L.length → firstAt (L ++ M) s k = firstAt L s k
  | 0, _ => rfl
  | k + 1, h => by
    unfold firstAt
    rw [first_left s (by omega), nm_left (by omega)]
theorem seen_left {L M : List ByteArray} {k : Nat} (h : k ≤ L.length) (s : ByteArray) : seenB (L ++ M) k s = seenB L k s := by
  unfold seenB; rw [first_left s h]
theorem tab_left {L M : List ByteArray} : ∀ {k : Nat}, k ≤ L.length → tab (L ++ M) k = tab L k
  | 0, _ => rfl
  | k + 1, h => by
    unfold tab
    rw [seen_left (by omega), nm_left (by omega), tab_left (by omega)]
theorem pos_left {L M : List ByteArray} {k : Nat} {s : ByteArray} (h : k ≤ L.length) (hs : Seen L k s) : pos (L ++ M) k s = pos L k s := by
  unfold pos
  split
  · rfl
  · rename_i hne
    rcases hs with hs | ⟨i, h1, h2⟩
    · exact absurd hs hne
    · rcases Nat.lt_or_ge (firstAt L s k) k with h3 | h3
      · rw [first_left s h, tab_left (by omega)]
      · exact absurd h2 (firstAt_miss (by omega) i h1)
theorem seen_twice {L : List ByteArray} {j : Nat} (h : j < L.length) : Seen (L ++ L) (L.length + j) (nm (L ++ L) (L.length + j)) :=
  .inr ⟨j, by omega, by rw [nm_right, nm_left h]⟩
theorem tab_twice (L : List ByteArray) : ∀ {j : Nat}, j ≤ L.length → tab (L ++ L) (L.length + j) = tab L L.length
  | 0, _ => tab_left (Nat.le_refl _)
  | j + 1, h => by
    rw [← Nat.add_assoc, tab_seen ((seenB_iff _ _ _).2 (seen_twice (by omega))), tab_twice L (by omega)]
theorem pos_twice {L : List ByteArray} {i : Nat} (h : i < L.length) : pos (L ++ L) (L ++ L).length (nm L i) = pos L L.length (nm L i) := by
  have hs : Seen L L.length (nm L i) := .inr ⟨i, h, rfl⟩
  have hs2 : Seen (L ++ L) L.length (nm L i) := .inr ⟨i, h, nm_left h⟩
  rw [pos_stay hs2 (by rw [List.length_append]; omega), pos_left (Nat.le_refl _) hs]
theorem outs_twice {L : List ByteArray} {i : Nat} (h : i < L.length) :
    (outs (L ++ L) (L ++ L).length).getD i 0 = (outs L L.length).getD i 0 ∧ (outs (L ++ L) (L ++ L).length).getD (L.length + i) 0 = (outs L L.length).getD i 0 := by
  have e : (L ++ L).length = L.length + L.length := List.length_append
  rw [outs_getD (L ++ L) (i := i) (by omega), outs_getD (L ++ L) (i := L.length + i) (by omega), outs_getD L h, nm_left h, nm_right, pos_twice h]
  exact ⟨rfl, rfl⟩
theorem clean_twice {L : List ByteArray} : Clean (L ++ L) ↔ Clean L := by
  constructor
  · intro h i hi
    have := h i (by rw [List.length_append]; omega)
    rwa [nm_left hi] at this
  · intro h i hi
    rw [List.length_append] at hi
    by_cases h1 : i < L.length
    · rw [nm_left h1]; exact h i h1
    · have := nm_right (L := L) (M := L) (i - L.length)
      rw [show L.length + (i - L.length) = i from by omega] at this
      rw [this]; exact h _ (by omega)
theorem nm_twice_le {L : List ByteArray} {M : Nat} (h : ∀ i, (nm L i).size ≤ M) (i : Nat) : (nm (L ++ L) i).size ≤ M := by
  by_cases h1 : i < L.length
  · rw [nm_left h1]; exact h i
  · have := nm_right (L := L) (M := L) (i - L.length)
    rw [show L.length + (i - L.length) = i from by omega] at this
    rw [this]; exact h _
/-- What is to be handed back for the names twice. -/
theorem res_twice {L : List ByteArray} {R O : List Int} {er : Int} (h : Res L R O er) :
    ∃ O2, Res (L ++ L) R O2 er ∧ O2.length = 2 * O.length ∧ ∀ i, i < O.length → O2.getD i 0 = O.getD i 0 ∧ O2.getD (O.length + i) 0 = O.getD i 0 := by
  have e : (L ++ L).length = L.length + L.length := List.length_append
  have ht : tab (L ++ L) (L ++ L).length = tab L L.length := by rw [e]; exact tab_twice L (Nat.le_refl _)
  rcases h with ⟨rfl, rfl, rfl, hc⟩ | ⟨rfl, rfl, rfl, hc, hl⟩ | ⟨rfl, rfl, rfl, hc, hl⟩
  · exact ⟨[], .inl ⟨rfl, rfl, rfl, fun h => hc (clean_twice.1 h)⟩, rfl, fun i hi => absurd hi (Nat.not_lt_zero _)⟩
  · exact ⟨[], .inr (.inl ⟨rfl, rfl, rfl, clean_twice.2 hc, by rw [ht]; exact hl⟩), rfl, fun i hi => absurd hi (Nat.not_lt_zero _)⟩
  · refine ⟨outs (L ++ L) (L ++ L).length, .inr (.inr ⟨rfl, by rw [ht], rfl, clean_twice.2 hc, hl⟩), by rw [outs_len, outs_len, e]; omega, fun i hi => ?_⟩
    rw [outs_len] at hi ⊢
    exact outs_twice hi

theorem wpList_append_strs {P : Program} {w : World} {ops : Array Oper} {rest : List Oper} {o : Oper} {a : Act} {Q : Exit → Act → World → Prop} (hgd : o.guard = none) (s x : Operand) (t : TypeId)
    (ho : o.op = .call { callee := .builtin .append, args := #[s, x], argTypes := #[t, t] })
    (base : Nat) (e : TypeId) (i : TypeInfo) (z : Value) (bytes : Nat) (ht : P.underlying t = some (.slice e)) (hi : P.info? e = some i) (hz : i.zero = some z)
    (hsize : i.size = 1) (hby : i.bytes = bytes) (hzs : z.cells.size = 1)
    (v : Value) (n : Nat) (xs : List Value) (hs : a.eval s = v) (hown : w.ownsRow base e 1 v n xs)
    (ad : Option Addr) (m c : Nat) (B : Nat) (L : List ByteArray) (hx : a.eval x = .slice ad m c) (hst : Strs w B ad m L) (hc : ad = none → c = 0)
    (h63 : n + m ≤ maxLen) (hbytes : (n + m) * bytes ≤ 140737488355328) (hbase : base ≤ w.heap.size)
    (h : ∀ v' w', w'.ownsRow base e 1 v' (n + m) (xs ++ L.map Value.string) → w.grownBy w' v.ownBlock → wpList P ops Q rest (a.put o.dst v') w') : wpList P ops Q (o :: rest) a w := by
  cases ad with
  | none =>
    have hm : m = 0 := by
      rcases Nat.eq_zero_or_pos m with h0 | h0
      · exact h0
      · obtain ⟨b, off, e, _⟩ := hst.2 h0
        cases e
    subst hm
    have hL : L = [] := List.eq_nil_of_length_eq_zero hst.1
    subst hL
    obtain rfl := hc rfl
    refine wpList_append_own_none hgd s x t ho base e i 1 ht hi v n xs hs hown hx (h v w ?_ ⟨rfl, rfl, rfl, Nat.le_refl _, fun _ _ _ => rfl⟩)
    simpa using hown
  | some ad =>
    refine wpList_append_own w hgd s x t ho base e i z 1 bytes ht hi hz hsize hby hzs (by decide) v n xs hs hown ad m c (L.map Value.string) hx (by rw [List.length_map, hst.1]; omega) ?_ (one_str L) h63 hbytes hbase (fun v' w' h1 h2 _ => h v' w' h1 h2)
    intro j u hj
    have hjm : j < m := by
      have := (List.getElem?_eq_some_iff.1 hj).1
      rw [List.length_map, hst.1] at this
      exact this
    obtain ⟨b, off, e, _, hcell⟩ := hst.2 (by omega)
    injection e with e
    subst e
    exact Strs.src hst.1 hcell j u hj
end Go.Proofs.Ytncnmgmkmjikcaa
