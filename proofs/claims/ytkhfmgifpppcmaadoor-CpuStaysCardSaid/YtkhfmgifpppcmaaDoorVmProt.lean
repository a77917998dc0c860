/-
  What is proved here: Protect of package vmem. · Unmap of package vmem.
  Conditions: as they say.
-/
import Derived.Test.YtkhfmgifpppcmaaDoorVmFill
namespace Go.Proofs.YtkhfmgifpppcmaaDoor
open Go.RowKit Go.WideMaps Go.Maps
set_option linter.unusedVariables false
set_option linter.unusedSimpArgs false

/-- The pages of parts, each turned. -/
def mapL (f : Pg → Pg) : List Pg → List Pt → List Pg
  | M, [] => M
  | M, p :: r => mapL f (updP M p.a f) r
theorem mapL_snoc (f : Pg → Pg) : ∀ (M : List Pg) (L : List Pt) (p : Pt), mapL f M (L ++ [p]) = updP (mapL f M L) p.a f
  | M, [], p => rfl
  | M, q :: r, p => mapL_snoc f (updP M q.a f) r p
theorem mapL_good {f : Pg → Pg} (hf : ∀ q, (f q).a = q.a) {p : Pt} : ∀ {M : List Pg} (L : List Pt), GoodP M p → GoodP (mapL f M L) p
  | M, [], h => h
  | M, q :: r, h => mapL_good hf r (upd_good hf h)
def setProt (r : Int) (p : Pg) : Pg := { p with prot := r }
/-- What Protect makes of memory, and what it answers. -/
def protR (M : List Pg) (x n : Nat) (r : Int) : List Pg × Int := if protP r = true then (mapL (setProt r) M (rngR M x n).2, (rngR M x n).1) else (M, 1)
theorem rng_good {M : List Pg} {x n : Nat} : (∀ p ∈ (rngR M x n).2, GoodP M p ∧ 1 ≤ p.n) ∧ (rngR M x n).2.length ≤ 4294967296 := by
  unfold rngR
  by_cases hr : rangeP x n = true
  · rw [if_pos hr]
    cases hs : spanP M x n with
    | none => exact ⟨(fun p hp => by cases hp), Nat.zero_le _⟩
    | some L =>
      have hg := span_good n x L hs
      refine ⟨hg, ?_⟩
      have h1 := len_sum L (fun p hp => (hg p hp).2)
      rw [span_len n x L hs] at h1
      exact Nat.le_trans h1 (range_n hr)
  · rw [if_neg hr]; exact ⟨(fun p hp => by cases hp), Nat.zero_le _⟩
theorem pgC_prot (p : Pg) (r : Int) : (pgC p).setIfInBounds 0 (.int .i64 r) = pgC (setProt r p) := by
  unfold pgC setProt
  simp
end Go.Proofs.YtkhfmgifpppcmaaDoor
namespace Go.Proofs.YtkhfmgifpppcmaaDoor
open Go.RowKit Go.WideMaps Go.Maps
set_option linter.unusedVariables false
set_option linter.unusedSimpArgs false

/-- The page at an address, let go. -/
def delP : List Pg → Nat → List Pg
  | [], _ => []
  | p :: r, a => if p.a = a then r else p :: delP r a
theorem del_sub : ∀ (M : List Pg) (a : Nat), (delP M a).Sublist M
  | [], _ => List.Sublist.slnil
  | p :: r, a => by
    unfold delP
    by_cases e : p.a = a
    · rw [if_pos e]; exact List.sublist_cons_self _ _
    · rw [if_neg e]; exact (del_sub r a).cons_cons _
theorem del_len : ∀ (M : List Pg) (a : Nat), (delP M a).length + (if (findP M a).isSome = true then 1 else 0) = M.length
  | [], _ => rfl
  | p :: r, a => by
    unfold delP
    rw [findP_cons]
    by_cases e : p.a = a
    · rw [if_pos e, if_pos e]; rfl
    · rw [if_neg e, if_neg e]
      have := del_len r a
      simp only [List.length_cons]
      omega
theorem del_find : ∀ {M : List Pg} {a : Nat}, (M.map (·.a)).Nodup → ∀ x, findP (delP M a) x = if x = a then none else findP M x
  | [], a, _, x => by
    show none = _
    by_cases e : x = a
    · rw [if_pos e]
    · rw [if_neg e]; rfl
  | p :: r, a, hn, x => by
    rw [List.map_cons, List.nodup_cons] at hn
    unfold delP
    by_cases e : p.a = a
    · rw [if_pos e, findP_cons]
      by_cases e2 : x = a
      · rw [if_pos e2, e2, ← e]; exact findP_none hn.1
      · rw [if_neg e2, if_neg (fun h => e2 (by rw [← h, e]))]
    · rw [if_neg e, findP_cons, findP_cons, del_find hn.2 x]
      by_cases e2 : x = a
      · subst e2; simp [e]
      · simp [e2]
theorem MapV.drop {w : World} {m : Option Nat} {M : List Pg} {pb : Nat → Nat} {c : Nat} (h : MapV w m M pb c) (hnd : (M.map (·.a)).Nodup) {x : Nat} (hx : x ≤ 18446744073709551615) (ty : TypeId) :
    ∃ w', (Builtin.delete_ #[45, 22] ty #[.map m, .int .u64 x]).run Tryd.prog w = .ok (.tuple #[]) w' ∧ MapV w' m (delP M x) pb c ∧ w.grownBy w' m := by
  cases m with
  | none =>
    have : M = [] := h
    subst this
    exact ⟨w, Maps.drop_nil law_u64 Tryd.underlying45 (key_u64 hx) ty, rfl, ⟨rfl, rfl, rfl, Nat.le_refl _, fun _ _ _ => rfl⟩⟩
  | some b =>
    obtain ⟨D, n, hn, hz, ho, hi⟩ := h
    obtain ⟨w', hrun, ho', hg⟩ := ho.drop law_u64 Tryd.underlying45 (key_u64 hx) ty
    refine ⟨w', hrun, ⟨_, n, hn, ?_, ho', hi.del x (fun y => del_find hnd y)⟩, hg.grown⟩
    have h1 := size_del (k := keyU x) (ho.tidy law_u64)
    have h2 := del_len M x
    rw [(hi x).1, hz] at h1
    omega
theorem VAt.del {w w' : World} {S : VS} {M : List Pg} {c : Nat} (h : VAt w S M c) {x : Nat} (hm : MapV w' S.m (delP M x) S.pb c) (hg : w.grownBy w' S.m) : VAt w' S (delP M x) c := by
  have hsub := del_sub M x
  have hblk : ∀ {j C t}, Blk w j C t → Blk w' j C t := fun {j C t} hB => hB.turn hg (fun e => by
    have hmp := h.mp
    rw [← e] at hmp
    obtain ⟨D, n, hn, hz, ⟨es, cl, hbk, r⟩, hi⟩ := hmp
    unfold Blk at hB
    rw [hbk] at hB
    injection hB with hB
    cases hB)
  exact ⟨hblk h.sp, hm, fun p hp => hblk (h.pg p (hsub.subset hp)), fun p hp q hq e => h.inj p (hsub.subset hp) q (hsub.subset hq) e, fun p hp => h.ok p (hsub.subset hp), h.so.sublist (hsub.map _), Nat.le_trans hsub.length_le h.le, h.og, h.om, fun p hp => h.op p (hsub.subset hp), fun k hk => Nat.lt_of_lt_of_le (h.sm k hk) hg.size⟩
/-- So many pages from an address on, let go. -/
def delN (M : List Pg) (x : Nat) : Nat → List Pg
  | 0 => M
  | k + 1 => delP (delN M x k) (x + k * 256)
def unmR (M : List Pg) (x n : Nat) : List Pg × Int := (delN M x (rngR M x n).2.length, (rngR M x n).1)
theorem rng_x {M : List Pg} {x n : Nat} (h : 0 < (rngR M x n).2.length) : x ≤ 4294967296 := by
  unfold rngR at h
  by_cases hr : rangeP x n = true
  · unfold rangeP at hr
    simp only [Bool.and_eq_true, decide_eq_true_eq] at hr
    omega
  · rw [if_neg hr] at h; cases h
end Go.Proofs.YtkhfmgifpppcmaaDoor
