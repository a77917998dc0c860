/-
  What is proved here: plain words for the statements of notes: how many bytes few notes have; what an error tells; bounds.
  Conditions: none.
-/
import Derived.Test.YtkgakdlalmmdiaaNotAwake
import Derived.Test.YtkgakdlalmmdiaaNotForth
namespace Go.Proofs.Ytkgakdlalmmdiaa
open Go.RowKit
set_option linter.unusedVariables false
set_option linter.unusedSimpArgs false

theorem own8_slice {w : World} {base n : Nat} {e : TypeId} {v : Value} {xs : List Value} (h : w.ownsRow base e 1 v n xs) : ∃ a c, v = .slice a n c ∧ n ≤ c ∧ (c : Int) ≤ 9223372036854775807 := by
  rcases h.2 with ⟨hv, e0⟩ | ⟨g, c, cur, hv, _, _, h1, h2, _⟩
  · exact ⟨none, 0, by rw [hv, e0], by omega, by omega⟩
  · exact ⟨_, _, hv, h1, by unfold maxLen at h2; omega⟩
theorem Nt.nd_ok {w : World} {B : Nat} {s : Nt} (h : s.Ok w B) : s.nd.Ok := ⟨bs_bd _, h.ty, h.de.bys.2.1⟩
theorem Nt.Sl.nds {w : World} {B : Nat} {a : Option Addr} {len : Nat} {L : List Nt} (h : Nt.Sl w B a len L) : ∀ d ∈ L.map Nt.nd, d.Ok := by
  intro d hd
  obtain ⟨s, hs, rfl⟩ := List.mem_map.1 hd
  exact Nt.nd_ok (h.hok s hs)
theorem putN_bd {L : List Nd} (h : ∀ d ∈ L, d.Ok) : ∀ n ∈ (putN L).2, 0 ≤ n ∧ n ≤ 255 := by
  unfold putN
  split
  · intro n hn; cases hn
  · split
    · intro n hn; cases hn
    · exact flatN_bd h
theorem putN_err {L : List Nd} (h : (putN L).1 ≠ 0) : (putN L).2 = [] := by
  unfold putN at h ⊢
  split
  · rfl
  · split
    · rfl
    · rename_i h1 h2; rw [if_neg h1, if_neg h2] at h; exact absurd rfl h
theorem putN_max (L : List Nd) : (putN L).2.length ≤ 65536 := by
  unfold putN
  split
  · decide
  · split
    · decide
    · show (flatN L).length ≤ 65536
      omega
theorem loopN_err {zs : List Int} : ∀ (f p : Nat) (out : List Nd), (loopN zs f p out).1 ≠ 0 → (loopN zs f p out).2 = []
  | 0, _, _, _ => rfl
  | f + 1, p, out, h => by
    unfold loopN at h ⊢
    split
    · rename_i h1; rw [if_pos h1] at h; exact absurd rfl h
    · rename_i h1
      rw [if_neg h1] at h
      split
      · rfl
      · rename_i h2
        rw [if_neg h2] at h
        split
        · rfl
        · rename_i h3
          rw [if_neg h3] at h
          split
          · rfl
          · rename_i h4
            rw [if_neg h4] at h
            split
            · rfl
            · rename_i h5
              rw [if_neg h5] at h
              split
              · rfl
              · rename_i h6
                rw [if_neg h6] at h
                split
                · rfl
                · rename_i h7
                  rw [if_neg h7] at h
                  exact loopN_err f _ _ h
theorem getN_err {zs : List Int} (h : (getN zs).1 ≠ 0) : (getN zs).2 = [] := by
  unfold getN at h ⊢
  split
  · rfl
  · rename_i h1
    rw [if_neg h1] at h
    exact loopN_err _ _ _ h
theorem flatN_many : ∀ L : List Nd, 12 * L.length ≤ (flatN L).length
  | [] => Nat.le_refl _
  | d :: L => by
    have h1 := flatN_many L
    have h2 := encN_len d
    unfold flatN at h1 ⊢
    rw [List.flatMap_cons, List.length_append, List.length_cons]; omega
theorem flatN_few : ∀ (L : List Nt), (∀ s ∈ L, s.na.size ≤ 500 ∧ s.de.zs.length ≤ 500) → (flatN (L.map Nt.nd)).length ≤ 1100 * L.length
  | [], _ => Nat.le_refl _
  | s :: L, h => by
    have h1 := flatN_few L (fun x hx => h x (List.mem_cons_of_mem _ hx))
    have h2 := encN_len s.nd
    obtain ⟨h3, h4⟩ := h s (List.mem_cons_self ..)
    have h5 : s.nd.na.length = s.na.size := bs_len _
    have h6 : s.nd.de.length = s.de.zs.length := rfl
    have h7 := (upN_le (s.nd.na.length + 1)).2.1
    have h8 := (upN_le s.nd.de.length).2.1
    unfold flatN at h1 ⊢
    rw [List.map_cons, List.flatMap_cons, List.length_append, List.length_cons]; omega
theorem fewN_true {L : List Nt} (h : fewN L = true) : L.length ≤ 20 ∧ ∀ s ∈ L, s.na.size ≤ 500 ∧ s.de.n ≤ 500 := by
  unfold fewN at h
  rw [Bool.and_eq_true, decide_eq_true_eq, Bool.not_eq_true'] at h
  refine ⟨h.1, fun s hs => ?_⟩
  have := List.any_eq_false.1 h.2 s hs
  unfold bigN at this
  rw [decide_eq_true_eq] at this
  omega
/-- Few notes: how many, and how many bytes. -/
theorem few_end {w : World} {B : Nat} {a : Option Addr} {len : Nat} {L : List Nt} (hs : Nt.Sl w B a len L) (h : fewN L = true) : len ≤ 20 ∧ (flatN (L.map Nt.nd)).length ≤ 900000 ∧ ∀ s ∈ L, s.de.n ≤ 500 := by
  obtain ⟨h1, h2⟩ := fewN_true h
  have h3 := flatN_few L (fun s hs' => ⟨(h2 s hs').1, by rw [(hs.hok s hs').de.bys.1]; exact (h2 s hs').2⟩)
  have h4 := hs.hl
  exact ⟨by omega, by omega, fun s hs' => (h2 s hs').2⟩
/-- What was got: how many, how many bytes. -/
theorem get_end {zs : List Int} {M : List Nt} (hb : ∀ n ∈ zs, 0 ≤ n ∧ n ≤ 255) (h0 : (getN zs).1 = 0) (hM : M.map Nt.nd = (getN zs).2) : putN (M.map Nt.nd) = (0, zs) ∧ flatN (M.map Nt.nd) = zs ∧ 12 * M.length ≤ zs.length := by
  obtain ⟨h1, h2⟩ := putN_get hb h0
  rw [← hM] at h1 h2
  have h3 := (getN_put h2 (by rw [h1])).1
  rw [h1] at h3
  have h4 : flatN (M.map Nt.nd) = zs := (congrArg Prod.snd h3).symm
  have h5 := flatN_many (M.map Nt.nd)
  rw [h4, List.length_map] at h5
  exact ⟨h1, h4, h5⟩
theorem getN_max {zs : List Int} (hb : ∀ n ∈ zs, 0 ≤ n ∧ n ≤ 255) : 12 * (getN zs).2.length ≤ zs.length := by
  by_cases h : (getN zs).1 = 0
  · obtain ⟨h1, h2⟩ := putN_get hb h
    have h3 := (getN_put h2 (by rw [h1])).1
    rw [h1] at h3
    have h4 : flatN (getN zs).2 = zs := (congrArg Prod.snd h3).symm
    have h5 := flatN_many (getN zs).2
    rwa [h4] at h5
  · rw [getN_err h]; exact Nat.zero_le _
/-- A literal of one note. -/
theorem Nt.Sl.lit1 (w : World) (s : Nt) (t : TypeId) (h : s.Ok w w.heap.size) : Nt.Sl (w.alloc (.cells s.cells t)) (w.heap.size + 1) (some ⟨w.heap.size, 0, none⟩) 1 [s] := by
  refine ⟨rfl, fun x hx => ?_, fun _ => ⟨w.heap.size, 0, rfl, by omega, fun i hi => ?_⟩⟩
  · obtain rfl := List.mem_singleton.1 hx
    exact (h.below ((Below.refl _ _).alloc (Nat.le_refl _) _)).more (by omega)
  · obtain rfl : i = 0 := by omega
    exact Nt.of_blk (s := s) (Blk.new w s.cells t)
theorem bsn_bd (m : Nat) : ∀ n ∈ List.replicate m (0 : Int), 0 ≤ n ∧ n ≤ 255 := fun n hn => by rw [List.eq_of_mem_replicate hn]; decide
/-- A note with the name abc and k bytes 0. -/
def many8 (k : Nat) : Nd := ⟨[97, 98, 99], 0, List.replicate k 0⟩
theorem many8_ok (k : Nat) : (many8 k).Ok := ⟨show ∀ n ∈ [(97 : Int), 98, 99], 0 ≤ n ∧ n ≤ 255 by decide, show (0 : Int) ≤ 0 ∧ (0 : Int) ≤ 4294967295 by decide, bsn_bd k⟩
theorem many8_len (k : Nat) : (flatN [many8 k]).length = 16 + upN k := by
  have h : flatN [many8 k] = encN (many8 k) := by simp [flatN]
  rw [h, encN_len]
  have h1 : (many8 k).de.length = k := List.length_replicate
  have h2 : upN ((many8 k).na.length + 1) = 4 := show upN (3 + 1) = 4 by decide
  rw [h1, h2]; omega
theorem many8_zero (k : Nat) : [many8 k].any zeroIn = false := by
  have : zeroIn (many8 k) = false := rfl
  simp [this]
theorem many8_put (k : Nat) : putN [many8 k] = if 65536 < 16 + upN k then (13, []) else (0, flatN [many8 k]) := by
  unfold putN
  rw [many8_zero, if_neg (by decide), many8_len]
theorem many8_get {k : Nat} (h : ¬ 65536 < 16 + upN k) : getN (flatN [many8 k]) = (0, [many8 k]) :=
  (getN_put (L := [many8 k]) (fun d hd => by obtain rfl := List.mem_singleton.1 hd; exact many8_ok k) (by rw [many8_put, if_neg h])).2
theorem getN_long {zs : List Int} (h : 65536 < zs.length) : getN zs = (13, []) := by unfold getN; rw [if_pos h]
/-- Does a note have the name and the type? -/
def hitN (name : ByteArray) (kind : Int) (s : Nt) : Bool := isN (bs name) kind s.nd
theorem hitN_yes {name : ByteArray} {kind : Int} {s : Nt} (h1 : s.na = name) (h2 : s.ty = kind) : hitN name kind s = true := by
  have e1 : s.nd.na = bs name := by subst h1; rfl
  have e2 : s.nd.ty = kind := h2
  unfold hitN isN
  rw [decide_eq_true e1, decide_eq_true e2]; rfl
theorem hitN_no {name : ByteArray} {kind : Int} {s : Nt} (h : ¬ (s.na = name ∧ s.ty = kind)) : hitN name kind s = false := by
  unfold hitN isN
  by_cases e1 : s.nd.na = bs name
  · have : ¬ s.nd.ty = kind := fun e2 => h ⟨bs_inj e1, e2⟩
    rw [decide_eq_false this, Bool.and_false]
  · rw [decide_eq_false e1, Bool.false_and]
theorem findN_no {name : ByteArray} {kind : Int} : ∀ {L : List Nt}, (∀ j, j < L.length → hitN name kind (L.getD j Nt.zero) = false) → findN (L.map Nt.nd) (bs name) kind = none
  | [], _ => rfl
  | s :: L, h => by
    have h0 : isN (bs name) kind s.nd = false := h 0 (by simp)
    have ih := findN_no (L := L) (name := name) (kind := kind) (fun j hj => h (j + 1) (by simpa using hj))
    unfold findN at ih ⊢
    rw [List.map_cons, List.find?_cons_of_neg (by rw [h0]; decide)]
    exact ih
theorem findN_at {name : ByteArray} {kind : Int} : ∀ {L : List Nt} {k : Nat}, (∀ j, j < k → hitN name kind (L.getD j Nt.zero) = false) → k < L.length → hitN name kind (L.getD k Nt.zero) = true → findN (L.map Nt.nd) (bs name) kind = some (L.getD k Nt.zero).de.zs
  | [], k, _, h, _ => by simp at h
  | s :: L, 0, _, _, h => by
    have h' : isN (bs name) kind s.nd = true := h
    unfold findN
    rw [List.map_cons, List.find?_cons_of_pos h']; rfl
  | s :: L, k + 1, h0, h1, h2 => by
    have h' : isN (bs name) kind s.nd = false := h0 0 (by omega)
    have ih := findN_at (L := L) (k := k) (name := name) (kind := kind) (fun j hj => h0 (j + 1) (by omega)) (by simpa using h1) h2
    unfold findN at ih ⊢
    rw [List.map_cons, List.find?_cons_of_neg (by rw [h']; decide)]
    exact ih
end Go.Proofs.Ytkgakdlalmmdiaa
