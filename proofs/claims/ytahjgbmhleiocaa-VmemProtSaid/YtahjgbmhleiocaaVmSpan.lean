/-
  What is proved here: plain words: spans page by page and byte by byte; what is written page by page.
  Conditions: none; nothing here speaks of the program.
-/
import Derived.Test.YtahjgbmhleiocaaVmSto
namespace Go.Proofs.Ytahjgbmhleiocaa
open Go.RowKit
set_option linter.unusedVariables false
set_option linter.unusedSimpArgs false

theorem span_all {M : List Pg} (n : Nat) : ∀ x : Nat, (spanP M x n).isSome = true ↔ ∀ i, i < n → (findP M ((x + i) / 256 * 256)).isSome = true := by
  induction n using Nat.strongRecOn with
  | ind n ih =>
    intro x
    by_cases hz : n = 0
    · subst hz
      rw [span_zero]
      exact ⟨fun _ i hi => absurd hi (by omega), fun _ => rfl⟩
    · cases hf : findP M (x / 256 * 256) with
      | none =>
        rw [span_none hz hf]
        refine ⟨fun h => (by cases h), fun h => ?_⟩
        have := h 0 (by omega)
        rw [Nat.add_zero, hf] at this
        cases this
      | some p =>
        have hm : n - min n (256 - x % 256) < n := by omega
        rw [span_some hz hf, Option.isSome_map, ih _ hm]
        constructor
        · intro h i hi
          by_cases hlt : i < min n (256 - x % 256)
          · rw [show (x + i) / 256 * 256 = x / 256 * 256 by omega, hf]; rfl
          · have := h (i - min n (256 - x % 256)) (by omega)
            rw [show x + min n (256 - x % 256) + (i - min n (256 - x % 256)) = x + i by omega] at this
            exact this
        · intro h i hi
          have := h (min n (256 - x % 256) + i) (by omega)
          rw [← Nat.add_assoc] at this
          exact this
theorem span_cons {M : List Pg} {x n : Nat} {L : List Pt} (hz : n ≠ 0) (h : spanP M x n = some L) :
    ∃ p r, findP M (x / 256 * 256) = some p ∧ spanP M (x + min n (256 - x % 256)) (n - min n (256 - x % 256)) = some r ∧ L = ⟨x / 256 * 256, x % 256, min n (256 - x % 256)⟩ :: r := by
  cases hf : findP M (x / 256 * 256) with
  | none => rw [span_none hz hf] at h; cases h
  | some p =>
    rw [span_some hz hf] at h
    cases hr : spanP M (x + min n (256 - x % 256)) (n - min n (256 - x % 256)) with
    | none => rw [hr] at h; cases h
    | some r =>
      rw [hr] at h
      injection h with h
      exact ⟨p, r, rfl, rfl, h.symm⟩
theorem span_byte {M : List Pg} (hM : ∀ p ∈ M, p.Ok) (n : Nat) : ∀ (x : Nat) (L : List Pt), spanP M x n = some L → ∀ i, i < n → ∃ q, findP M ((x + i) / 256 * 256) = some q ∧ (bytesL M L).getD i 0 = q.b.getD ((x + i) % 256) 0 := by
  induction n using Nat.strongRecOn with
  | ind n ih =>
    intro x L h i hi
    have hz : n ≠ 0 := by omega
    obtain ⟨p, r, hp, hr, rfl⟩ := span_cons hz h
    obtain ⟨hm, ha⟩ := findP_mem hp
    have hl := (hM p hm).len
    have e : bytesL M (⟨x / 256 * 256, x % 256, min n (256 - x % 256)⟩ :: r) = (p.b.drop (x % 256)).take (min n (256 - x % 256)) ++ bytesL M r := by
      show bytesP M _ ++ _ = _
      unfold bytesP
      simp only [hp]
      rfl
    have hk : ((p.b.drop (x % 256)).take (min n (256 - x % 256))).length = min n (256 - x % 256) := by
      rw [List.length_take, List.length_drop, hl]; omega
    rw [e]
    by_cases hlt : i < min n (256 - x % 256)
    · refine ⟨p, by rw [show (x + i) / 256 * 256 = x / 256 * 256 by omega]; exact hp, ?_⟩
      rw [List.getD_eq_getElem?_getD, List.getElem?_append_left (by rw [hk]; exact hlt), List.getElem?_take, if_pos hlt, List.getElem?_drop, List.getD_eq_getElem?_getD, show x % 256 + i = (x + i) % 256 by omega]
    · obtain ⟨q, hq, hb⟩ := ih _ (by omega) _ r hr (i - min n (256 - x % 256)) (by omega)
      rw [show x + min n (256 - x % 256) + (i - min n (256 - x % 256)) = x + i by omega] at hq hb
      refine ⟨q, hq, ?_⟩
      rw [List.getD_eq_getElem?_getD, List.getElem?_append_right (by rw [hk]; omega), hk, ← List.getD_eq_getElem?_getD]
      exact hb
theorem span_top {M : List Pg} (hM : ∀ p ∈ M, p.Ok) {x n : Nat} {L : List Pt} (h : spanP M x n = some L) (hn : 0 < n) : x + n ≤ 4294967296 := by
  obtain ⟨q, hq, _⟩ := span_byte hM n x L h (n - 1) (by omega)
  obtain ⟨hm, ha⟩ := findP_mem hq
  have h1 := (hM q hm).al
  have h2 := (hM q hm).lt
  omega
theorem span_upd {M : List Pg} {a : Nat} {f : Pg → Pg} (hf : ∀ q, (f q).a = q.a) (n : Nat) : ∀ x, spanP (updP M a f) x n = spanP M x n := by
  induction n using Nat.strongRecOn with
  | ind n ih =>
    intro x
    by_cases hz : n = 0
    · subst hz
      rw [span_zero, span_zero]
    · have hfd := upd_find (M := M) (a := a) hf (x / 256 * 256)
      cases hp : findP M (x / 256 * 256) with
      | none =>
        rw [hp] at hfd
        rw [span_none hz hp, span_none hz hfd]
      | some p =>
        rw [hp] at hfd
        rw [span_some hz hp, span_some hz hfd, ih _ (by omega)]
theorem upd_comm {M : List Pg} {a b : Nat} {f g : Pg → Pg} (hf : ∀ q, (f q).a = q.a) (hg : ∀ q, (g q).a = q.a) (hc : ∀ q, f (g q) = g (f q)) : updP (updP M a g) b f = updP (updP M b f) a g := by
  unfold updP
  rw [List.map_map, List.map_map]
  refine List.map_congr_left fun q _ => ?_
  show (if (if q.a = a then g q else q).a = b then f (if q.a = a then g q else q) else (if q.a = a then g q else q)) = (if (if q.a = b then f q else q).a = a then g (if q.a = b then f q else q) else (if q.a = b then f q else q))
  have h1 : (if q.a = a then g q else q).a = q.a := by
    by_cases e : q.a = a
    · rw [if_pos e, hg]
    · rw [if_neg e]
  have h2 : (if q.a = b then f q else q).a = q.a := by
    by_cases e : q.a = b
    · rw [if_pos e, hf]
    · rw [if_neg e]
  rw [h1, h2]
  by_cases e1 : q.a = a
  · by_cases e2 : q.a = b
    · simp only [if_pos e1, if_pos e2, hc]
    · simp only [if_pos e1, if_neg e2]
  · by_cases e2 : q.a = b
    · simp only [if_neg e1, if_pos e2]
    · simp only [if_neg e1, if_neg e2]
theorem upd_twice {M : List Pg} {a : Nat} {f g : Pg → Pg} (hg : ∀ q, (g q).a = q.a) : updP (updP M a g) a f = updP M a (fun q => f (g q)) := by
  unfold updP
  rw [List.map_map]
  refine List.map_congr_left fun q _ => ?_
  show (if (if q.a = a then g q else q).a = a then f (if q.a = a then g q else q) else (if q.a = a then g q else q)) = (if q.a = a then f (g q) else q)
  by_cases e1 : q.a = a
  · simp only [if_pos e1]
    rw [if_pos (by rw [hg]; exact e1)]
  · simp only [if_neg e1]
theorem upd_const {M : List Pg} {a : Nat} {f : Pg → Pg} {q : Pg} (hn : (M.map (·.a)).Nodup) (hq : findP M a = some q) : updP M a (fun _ => f q) = updP M a f := by
  unfold updP
  refine List.map_congr_left fun p hp => ?_
  by_cases e : p.a = a
  · have := findP_of hn hp
    rw [e, hq] at this
    injection this with this
    rw [if_pos e, if_pos e, this]
  · rw [if_neg e, if_neg e]
theorem upd_none {M : List Pg} {a : Nat} {f : Pg → Pg} (h : findP M a = none) : updP M a f = M := by
  unfold updP
  conv => rhs; rw [← List.map_id M]
  refine List.map_congr_left fun p hp => ?_
  by_cases e : p.a = a
  · exfalso
    have : ∀ M : List Pg, p ∈ M → findP M p.a ≠ none := fun M => by
      induction M with
      | nil => intro h; cases h
      | cons q r ih =>
        intro h
        rw [findP_cons]
        by_cases e : q.a = p.a
        · rw [if_pos e]; exact fun h => by cases h
        · rw [if_neg e]
          rcases List.mem_cons.1 h with rfl | h
          · exact absurd rfl e
          · exact ih h
    exact this M hp (by rw [e]; exact h)
  · rw [if_neg e]; rfl
/-- Bytes written to a page. -/
def putD (d : Bool) (o : Nat) (bs : List Int) (p : Pg) : Pg := { p with b := laidB p.b o bs, dirty := p.dirty || d }
theorem putD_a (d : Bool) (o : Nat) (bs : List Int) (p : Pg) : (putD d o bs p).a = p.a := rfl
theorem putD_false (o : Nat) (bs : List Int) : putD false o bs = putPg o bs := by
  funext p
  unfold putD putPg
  rw [Bool.or_false]
theorem putD_true (o : Nat) (bs : List Int) : putD true o bs = fun p => setDirty (putPg o bs p) := by
  funext p
  unfold putD putPg setDirty
  rw [Bool.or_true]
/-- Bytes written from an address on. -/
def pokeW (d : Bool) (M : List Pg) (x : Nat) (bs : List Int) : List Pg :=
  if h : bs = [] then M else pokeW d (updP M (x / 256 * 256) (putD d (x % 256) (bs.take (min bs.length (256 - x % 256))))) (x + min bs.length (256 - x % 256)) (bs.drop (min bs.length (256 - x % 256)))
termination_by bs.length
decreasing_by
  have : bs.length ≠ 0 := fun e => h (List.length_eq_zero_iff.1 e)
  rw [List.length_drop]
  omega
theorem poke_nil (d : Bool) (M : List Pg) (x : Nat) : pokeW d M x [] = M := by rw [pokeW]; rfl
theorem poke_step {d : Bool} {M : List Pg} {x : Nat} {bs : List Int} (h : bs.length ≠ 0) : pokeW d M x bs = pokeW d (updP M (x / 256 * 256) (putD d (x % 256) (bs.take (min bs.length (256 - x % 256))))) (x + min bs.length (256 - x % 256)) (bs.drop (min bs.length (256 - x % 256))) := by
  rw [pokeW, dif_neg (fun e => h (by rw [e]; rfl))]
theorem fill_poke (n : Nat) : ∀ (M : List Pg) (x : Nat) (bs : List Int) (L : List Pt), bs.length = n → spanP M x bs.length = some L → fillM M L bs = pokeW false M x bs := by
  induction n using Nat.strongRecOn with
  | ind n ih =>
    intro M x bs L hn h
    by_cases hz : bs.length = 0
    · have hz2 : bs = [] := List.length_eq_zero_iff.1 hz
      subst hz2
      have h : spanP M x 0 = some L := h
      rw [span_zero] at h
      injection h with h
      subst h
      rw [poke_nil]; rfl
    · obtain ⟨p, r, hp, hr, rfl⟩ := span_cons hz h
      rw [poke_step hz, putD_false]
      have hd : (bs.drop (min bs.length (256 - x % 256))).length = bs.length - min bs.length (256 - x % 256) := List.length_drop ..
      exact ih (bs.length - min bs.length (256 - x % 256)) (by omega) _ _ _ r hd (by rw [hd]; exact (span_upd (f := putPg (x % 256) (bs.take (min bs.length (256 - x % 256)))) (fun _ => rfl) _ _).trans hr)
theorem fill_upd {a : Nat} {f : Pg → Pg} (hf : ∀ q, (f q).a = q.a) (hc : ∀ o bs q, f (putPg o bs q) = putPg o bs (f q)) : ∀ (M : List Pg) (L : List Pt) (bs : List Int), fillM (updP M a f) L bs = updP (fillM M L bs) a f
  | M, [], bs => rfl
  | M, p :: r, bs => by
    show fillM (updP (updP M a f) p.a _) r _ = updP (fillM (updP M p.a _) r _) a f
    rw [upd_comm (f := putPg p.o (bs.take p.n)) (g := f) (fun _ => rfl) hf (fun q => (hc _ _ q).symm), fill_upd hf hc]
theorem dirty_poke (n : Nat) : ∀ (M : List Pg) (x : Nat) (bs : List Int) (L : List Pt), bs.length = n → spanP M x bs.length = some L → mapL setDirty (fillM M L bs) L = pokeW true M x bs := by
  induction n using Nat.strongRecOn with
  | ind n ih =>
    intro M x bs L hn h
    by_cases hz : bs.length = 0
    · have hz2 : bs = [] := List.length_eq_zero_iff.1 hz
      subst hz2
      have h : spanP M x 0 = some L := h
      rw [span_zero] at h
      injection h with h
      subst h
      rw [poke_nil]; rfl
    · obtain ⟨p, r, hp, hr, rfl⟩ := span_cons hz h
      rw [poke_step hz, putD_true]
      have hd : (bs.drop (min bs.length (256 - x % 256))).length = bs.length - min bs.length (256 - x % 256) := List.length_drop ..
      rw [← ih (bs.length - min bs.length (256 - x % 256)) (by omega) _ _ _ r hd (by rw [hd]; exact (span_upd (f := fun p => setDirty (putPg (x % 256) (bs.take (min bs.length (256 - x % 256))) p)) (fun _ => rfl) _ _).trans hr)]
      show mapL setDirty (updP (fillM (updP M _ _) r _) _ setDirty) r = _
      rw [← fill_upd (f := setDirty) (fun _ => rfl) (fun _ _ _ => rfl), upd_twice (g := putPg _ _) (fun _ => rfl)]
end Go.Proofs.Ytahjgbmhleiocaa
