/-
  What is proved here: what a map from names to places holds behind k names; the walk's law for a map's literal; two rows of different types lie apart.
  Conditions: none.
-/
import Derived.Test.YtncnmgmkmjikcaaNamMath
import Derived.Test.YtncnmgmkmjikcaaBaseP
namespace Go.Proofs.Ytncnmgmkmjikcaa
open Go.RowKit Go.WideMaps Go.Maps
set_option linter.unusedVariables false

theorem law_str : Keyed Try.prog 9 := string_keyed Try.underlying9
theorem zero_u64 (w : World) : (zeroValue 23).run Try.prog w = .ok (.int .u64 0) w := by kernel_rfl
theorem wpList_insert_own {H : Type} {P : Program} (w : World) {ops : Array Oper} {rest : List Oper} {o : Oper} {a : Act} {Q : Exit → Act → World → Prop}
    (hg : o.guard = none) (m x v : Operand) (t : TypeId) (hop : o.op = Op.insert t m x v)
    (k e : TypeId) (K : Keyed P k) (ht : P.underlying t = some (.map k e)) (R : Value → Option (DataW H × List MemPlace)) (b n : Nat) (D : DataW H)
    (hm : a.eval m = .map (some b)) (hown : w.ownsMap P k R b n D) (hn : n < maxLen) (key val : Value) (kl : Lit) (hx : a.eval x = key) (hv : a.eval v = val) (hkey : keyOf P k key = some kl)
    (d : DataW H) (ps : List MemPlace) (hval : R val = some (d, ps))
    (hK : ∀ w', w'.ownsMap P k R b (n + 1) (D.put kl d) → w.grownBy w' (some b) → wpList P ops Q rest (a.put o.dst undef) w') :
    wpList P ops Q (o :: rest) a w := by
  refine wpList_plain hg fun K' hK' => ?_
  obtain ⟨w', hrun, r1, r2⟩ := hown.update K ht hn hkey hval
  unfold Oper.wp
  simp [execOp, hop, hm, hx, hv, hrun, Result.andThen]
  exact hK' _ _ (hK w' r1 r2)

theorem own_apart {w : World} {b1 b2 n m : Nat} {e1 e2 : TypeId} {v u : Value} {xs ys : List Value} (h : w.ownsRow b1 e1 1 v n xs) (k : w.ownsRow b2 e2 1 u m ys) (hne : e1 ≠ e2) : v.ownBlock = none ∨ v.ownBlock ≠ u.ownBlock := by
  rcases h.2 with ⟨rfl, _⟩ | ⟨g, c, cur, rfl, _, hg, _⟩
  · exact .inl rfl
  · rcases k.2 with ⟨rfl, _⟩ | ⟨g', c', cur', rfl, _, hg', _⟩
    · exact .inr (by simp [Value.ownBlock])
    · refine .inr fun e => ?_
      simp only [Value.ownBlock, Option.some.injEq] at e
      subst e
      rw [hg] at hg'
      injection hg' with hg'
      injection hg' with _ e2
      exact hne e2
theorem map_apart {H : Type} {P : Program} {k : TypeId} {R : Value → Option (DataW H × List MemPlace)} {D : DataW H} {w : World} {b1 b n m : Nat} {e1 : TypeId} {v : Value} {xs : List Value} (h : w.ownsRow b1 e1 1 v n xs) (hm : w.ownsMap P k R b m D) : v.ownBlock ≠ some b := by
  rcases h.2 with ⟨rfl, _⟩ | ⟨g, c, cur, rfl, _, hg, _⟩
  · simp [Value.ownBlock]
  · intro e
    simp only [Value.ownBlock, Option.some.injEq] at e
    subst e
    obtain ⟨es, clock, hb, _⟩ := hm
    rw [hg] at hb
    cases hb

/-- The key of a name. -/
def key (s : ByteArray) : Lit := .string s.data.toList
theorem key_inj {s t : ByteArray} (h : key s = key t) : s = t := by
  unfold key at h
  injection h with h
  exact ByteArray.ext (Array.ext' h)
def u64d (n : Nat) : DataW Unit := .lit (.int .u64 n)
/-- The map holds what was seen, and where it stands. -/
def MapOk (L : List ByteArray) (k : Nat) (D : DataW Unit) : Prop :=
  IsMap D ∧ ∀ s : ByteArray, Maps.has D (key s) = seenB L k s ∧ (Seen L k s → D.atKey (key s) (u64d 0) = u64d (pos L k s))
theorem isKey (s : ByteArray) : WideAt.IsKeyLit (key s) := by simp [key, WideAt.IsKeyLit]
theorem mapOk_zero (L : List ByteArray) : MapOk L 0 ((DataW.map []).put (key .empty) (u64d 0)) := by
  refine ⟨isMap_empty.put _ _, fun s => ?_⟩
  by_cases hs : s = .empty
  · subst hs
    refine ⟨?_, fun _ => ?_⟩
    · rw [has_put_same isMap_empty (isKey _), (seenB_iff L 0 _).2 (.inl rfl)]
    · rw [atKey_put_same isMap_empty (isKey _), pos_empty]
  · have hne : key s ≠ key .empty := fun e => hs (key_inj e)
    have hns : ¬ Seen L 0 s := fun h => h.elim hs (fun ⟨i, h, _⟩ => absurd h (Nat.not_lt_zero _))
    refine ⟨?_, fun h => absurd h hns⟩
    rw [has_put_other hne, Bool.eq_false_iff.2 (fun h => hns ((seenB_iff L 0 s).1 h))]
    rfl
theorem mapOk_seen {L : List ByteArray} {k : Nat} {D : DataW Unit} (h : MapOk L k D) (hs : seenB L k (nm L k) = true) : MapOk L (k + 1) D := by
  refine ⟨h.1, fun s => ?_⟩
  by_cases he : nm L k = s
  · subst he
    refine ⟨by rw [seenB_succ, (h.2 _).1, hs]; rfl, fun _ => ?_⟩
    have h1 := (seenB_iff _ _ _).1 hs
    rw [(h.2 _).2 h1, pos_stay (m := k + 1) h1 (by omega)]
  · have e : seenB L (k + 1) s = seenB L k s := by rw [seenB_succ]; simp [he]
    refine ⟨by rw [e, (h.2 s).1], fun h1 => ?_⟩
    have h2 : Seen L k s := (seenB_iff _ _ _).1 (e ▸ (seenB_iff _ _ _).2 h1)
    rw [(h.2 s).2 h2, pos_stay (m := k + 1) h2 (by omega)]
theorem mapOk_new {L : List ByteArray} {k : Nat} {D : DataW Unit} (h : MapOk L k D) (hs : seenB L k (nm L k) = false) : MapOk L (k + 1) (D.put (key (nm L k)) (u64d (tab L k).length)) := by
  refine ⟨h.1.put _ _, fun s => ?_⟩
  by_cases he : nm L k = s
  · subst he
    refine ⟨by rw [has_put_same h.1 (isKey _), seenB_succ]; simp, fun _ => ?_⟩
    rw [atKey_put_same h.1 (isKey _), pos_new hs]
  · have hne : key s ≠ key (nm L k) := fun e => he (key_inj e).symm
    have e : seenB L (k + 1) s = seenB L k s := by rw [seenB_succ]; simp [he]
    refine ⟨by rw [has_put_other hne, e, (h.2 s).1], fun h1 => ?_⟩
    have h2 : Seen L k s := (seenB_iff _ _ _).1 (e ▸ (seenB_iff _ _ _).2 h1)
    rw [atKey_put_other hne, (h.2 s).2 h2, pos_stay (m := k + 1) h2 (by omega)]
theorem u64d_inj {n : Nat} {c : Int} (h : u64d n = .lit (.int .u64 c)) : c = (n : Int) := by
  unfold u64d at h
  injection h with h
  injection h with h1 h2
  exact h2.symm
theorem key_of {s : ByteArray} (h : s.size ≤ maxLen) : keyOf Try.prog 9 (.string s) = some (key s) := keyOf_string_mk Try.underlying9 h
theorem wf_u64 {n : Nat} (h : n ≤ 65536) : (Lit.int .u64 (n : Int)).wf = true := by
  simp [Lit.wf, IntKind.min, IntKind.max, IntKind.signed, IntKind.bits]; omega
end Go.Proofs.Ytncnmgmkmjikcaa
