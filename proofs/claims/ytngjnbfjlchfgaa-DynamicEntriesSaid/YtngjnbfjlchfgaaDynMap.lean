/-
  What is proved here: the map from tags to fields of package dynamic: fieldsOf, whole, fill.
  Conditions: none but that the arguments are values of their types.
-/
import Derived.Test.YtngjnbfjlchfgaaDynPlain
import Derived.Test.YtngjnbfjlchfgaaFInv
import Derived.Maps.Own
import Derived.Maps.OwnSet
import Derived.Maps.Views
namespace Go.Proofs.Ytngjnbfjlchfgaa
open Go.RowKit Go.WideMaps Go.Maps
set_option linter.unusedVariables false
set_option linter.unusedSimpArgs false

theorem law_u64 : Keyed Try.prog 23 := int_keyed Try.underlying23
theorem zero_ptr (w : World) : (zeroValue 61).run Try.prog w = .ok (.pointer none) w := by kernel_rfl
def keyU (t : Int) : Lit := .int .u64 t
theorem key_u64 {t : Int} (h : 0 ≤ t ∧ t ≤ 18446744073709551615) : keyOf Try.prog 23 (.int .u64 t) = some (keyU t) :=
  keyOf_int_mk Try.underlying23 (by simp [Lit.wf, IntKind.min, IntKind.max, IntKind.signed, IntKind.bits]; omega)
theorem isKeyU (t : Int) : WideAt.IsKeyLit (keyU t) := by simp [keyU, WideAt.IsKeyLit]
theorem keyU_ne {s t : Int} (h : s ≠ t) : keyU s ≠ keyU t := fun e => by
  unfold keyU at e
  injection e with _ e
  exact h e
/-- How a field's place reads: nil, or the number of a cell of block X. -/
def placeR (X : Nat) : Value → Option (DataW Unit × List MemPlace)
  | .pointer none => some (.lit (.bool false), [])
  | .pointer (some ⟨b, o, none⟩) => if b = X then some (.lit (.int .u64 o), []) else none
  | _ => none
theorem placeR_nil (X : Nat) : placeR X (.pointer none) = some (.lit (.bool false), []) := rfl
theorem placeR_at (X o : Nat) : placeR X (.pointer (some ⟨X, o, none⟩)) = some (.lit (.int .u64 o), []) := by simp [placeR]
theorem placeR_inv_nil {X : Nat} {v : Value} {ps : List MemPlace} (h : placeR X v = some (.lit (.bool false), ps)) : v = .pointer none := by
  unfold placeR at h
  split at h
  · rfl
  · split at h
    · injection h with h; injection h with h _; injection h with h; cases h
    · cases h
  · cases h
theorem placeR_inv_at {X : Nat} {v : Value} {ps : List MemPlace} {o : Nat} (h : placeR X v = some (.lit (.int .u64 o), ps)) : v = .pointer (some ⟨X, o, none⟩) := by
  unfold placeR at h
  split at h
  · injection h with h; injection h with h _; injection h with h; cases h
  · split at h
    · rename_i b o' hb
      subst hb
      injection h with h; injection h with h _; injection h with h; injection h with _ h
      have : o' = o := by omega
      subst this; rfl
    · cases h
  · cases h
/-- The map's datum, as far as the tags of S are in it. -/
def PartD (D : DataW Unit) (S : Nat → Bool) : Prop :=
  ∀ t : Int, Maps.has D (keyU t) = (match idxD t with | some i => S i | none => false) ∧ ∀ i, idxD t = some i → S i = true → ∀ z, D.atKey (keyU t) z = .lit (.int .u64 ((i + 1 : Nat) : Int))
theorem partD_zero {S : Nat → Bool} (h : ∀ i, i < 7 → S i = false) : PartD (.map []) S := by
  intro t
  cases hi : idxD t with
  | none => exact ⟨rfl, fun i h => by cases h⟩
  | some i =>
    have := h i (idxD_lt hi).1
    exact ⟨by simp only [this]; rfl, fun j hj hs => by injection hj with hj; subst hj; rw [this] at hs; cases hs⟩
theorem partD_put {D : DataW Unit} {S S' : Nat → Bool} {i : Nat} (hi : i < 7) (hm : IsMap D) (h : PartD D S) (h1 : S' i = true) (h2 : ∀ j, j < 7 → j ≠ i → S' j = S j) : PartD (D.put (keyU (tagsD.getD i 0)) (.lit (.int .u64 ((i + 1 : Nat) : Int)))) S' := by
  intro t
  by_cases ht : t = tagsD.getD i 0
  · subst ht
    rw [idxD_tag hi]
    refine ⟨by simp only [h1]; rw [has_put_same hm (isKeyU _)], fun j hj hs z => ?_⟩
    injection hj with hj
    subst hj
    exact atKey_put_same hm (isKeyU _) _ _
  · have hne := keyU_ne ht
    obtain ⟨q1, q2⟩ := h t
    have hji : ∀ j, idxD t = some j → j ≠ i ∧ j < 7 := fun j hj => ⟨fun e => ht (by rw [← e]; exact (idxD_lt hj).2.symm), (idxD_lt hj).1⟩
    refine ⟨?_, fun j hj hs z => ?_⟩
    · rw [has_put_other hne, q1]
      cases hj : idxD t with
      | none => rfl
      | some j => obtain ⟨r1, r2⟩ := hji j hj; simp only; rw [h2 j r2 r1]
    · obtain ⟨r1, r2⟩ := hji j hj
      rw [atKey_put_other hne]
      exact q2 j hj (by rw [← h2 j r2 r1]; exact hs) z
/-- The map's datum: all seven tags are in it, the place of one that was seen is nil. -/
def AllD (D : DataW Unit) (seen : List Bool) : Prop :=
  ∀ t : Int, Maps.has D (keyU t) = (idxD t).isSome ∧ ∀ i, idxD t = some i → ∀ z, D.atKey (keyU t) z = if seen.getD i false = true then .lit (.bool false) else .lit (.int .u64 ((i + 1 : Nat) : Int))
theorem allD_zero {D : DataW Unit} {S : Nat → Bool} (h : PartD D S) (hs : ∀ i, i < 7 → S i = true) : AllD D stD0.seen := by
  intro t
  obtain ⟨q1, q2⟩ := h t
  refine ⟨?_, fun i hi z => ?_⟩
  · rw [q1]
    cases hi : idxD t with
    | none => rfl
    | some i => exact hs i (idxD_lt hi).1
  · have hi7 := (idxD_lt hi).1
    have hf : stD0.seen.getD i false = false := by
      have : i = 0 ∨ i = 1 ∨ i = 2 ∨ i = 3 ∨ i = 4 ∨ i = 5 ∨ i = 6 := by omega
      rcases this with rfl | rfl | rfl | rfl | rfl | rfl | rfl <;> rfl
    rw [hf, if_neg (by decide)]
    exact q2 i hi (hs i hi7) z
theorem allD_put {D : DataW Unit} {seen : List Bool} {i : Nat} (hi : i < 7) (hm : IsMap D) (hl : seen.length = 7) (h : AllD D seen) : AllD (D.put (keyU (tagsD.getD i 0)) (.lit (.bool false))) (seen.set i true) := by
  intro t
  by_cases ht : t = tagsD.getD i 0
  · subst ht
    rw [idxD_tag hi]
    refine ⟨by rw [has_put_same hm (isKeyU _)]; rfl, fun j hj z => ?_⟩
    injection hj with hj
    subst hj
    rw [atKey_put_same hm (isKeyU _)]
    have : (seen.set i true).getD i false = true := by rw [List.getD_eq_getElem?_getD, List.getElem?_set_self (by omega)]; rfl
    rw [if_pos this]
  · have hne := keyU_ne ht
    obtain ⟨q1, q2⟩ := h t
    refine ⟨by rw [has_put_other hne, q1], fun j hj z => ?_⟩
    have hji : i ≠ j := fun e => ht (by rw [e]; exact (idxD_lt hj).2.symm)
    rw [atKey_put_other hne, q2 j hj z]
    have : (seen.set i true).getD j false = seen.getD j false := by rw [List.getD_eq_getElem?_getD, List.getElem?_set_ne hji, List.getD_eq_getElem?_getD]
    rw [this]
/-- The map of a world. -/
def FieldsM (w : World) (g X n : Nat) (seen : List Bool) : Prop := ∃ D, w.ownsMap Try.prog 23 (placeR X) g n D ∧ AllD D seen
theorem FieldsM.lt {w : World} {g X n : Nat} {seen : List Bool} (h : FieldsM w g X n seen) : g < w.heap.size := by
  obtain ⟨D, h, _⟩ := h
  exact h.lt
theorem FieldsM.look {w : World} {g X n : Nat} {seen : List Bool} (h : FieldsM w g X n seen) {t : Int} (ht : 0 ≤ t ∧ t ≤ 18446744073709551615) :
    (idxD t = none → ∃ v, (Instr.lookup 49 (.map (some g)) (.int .u64 t) true).run Try.prog w = .ok (.tuple #[v, .bool false]) w) ∧
    (∀ i, idxD t = some i → (Instr.lookup 49 (.map (some g)) (.int .u64 t) true).run Try.prog w = .ok (.tuple #[if seen.getD i false = true then .pointer none else .pointer (some ⟨X, i + 1, none⟩), .bool true]) w) := by
  obtain ⟨D, ho, hD⟩ := h
  obtain ⟨v, ps, hr, hv⟩ := ho.look_ok law_u64 Try.underlying49 (zero_ptr w) (placeR_nil X) (key_u64 ht)
  obtain ⟨q1, q2⟩ := hD t
  rw [q1] at hr
  refine ⟨fun hi => ⟨v, by rw [hr, hi]; rfl⟩, fun i hi => ?_⟩
  rw [hr, hi]
  rw [q2 i hi] at hv
  by_cases hs : seen.getD i false = true
  · rw [if_pos hs] at hv ⊢
    rw [placeR_inv_nil hv]; rfl
  · rw [if_neg hs] at hv ⊢
    rw [placeR_inv_at hv]; rfl
theorem FieldsM.look1 {w : World} {g X n : Nat} {seen : List Bool} (h : FieldsM w g X n seen) {i : Nat} (hi : i < 7) :
    (Instr.lookup 49 (.map (some g)) (.int .u64 (tagsD.getD i 0)) false).run Try.prog w = .ok (if seen.getD i false = true then .pointer none else .pointer (some ⟨X, i + 1, none⟩)) w := by
  obtain ⟨D, ho, hD⟩ := h
  have ht := tagsD_pos hi
  obtain ⟨v, ps, hr, hv⟩ := ho.lookup law_u64 Try.underlying49 (zero_ptr w) (placeR_nil X) (key_u64 ht.2.2)
  obtain ⟨q1, q2⟩ := hD (tagsD.getD i 0)
  rw [hr]
  rw [q2 i (idxD_tag hi)] at hv
  by_cases hs : seen.getD i false = true
  · rw [if_pos hs] at hv ⊢
    rw [placeR_inv_nil hv]
  · rw [if_neg hs] at hv ⊢
    rw [placeR_inv_at hv]
theorem FieldsM.mark {w : World} {g X n : Nat} {seen : List Bool} (h : FieldsM w g X n seen) (hn : n < maxLen) {i : Nat} (hi : i < 7) (hl : seen.length = 7) :
    ∃ w', (Instr.mapUpdate 49 (.map (some g)) (.int .u64 (tagsD.getD i 0)) (.pointer none)).run Try.prog w = .ok () w' ∧ FieldsM w' g X (n + 1) (seen.set i true) ∧ w.grownBy w' (some g) := by
  obtain ⟨D, ho, hD⟩ := h
  have ht := tagsD_pos hi
  obtain ⟨w', hr, ho', hg⟩ := ho.update law_u64 Try.underlying49 hn (key_u64 ht.2.2) (placeR_nil X)
  exact ⟨w', hr, ⟨_, ho', allD_put hi ho.isMap hl hD⟩, hg⟩
/-! ### the map's making -/
/-- Which operation of fieldsOf lays tag number i in. -/
def insD (i : Nat) : Nat := ([24, 4, 20, 8, 28, 12, 16] : List Nat).getD i 0
def cntD (L : Nat → Bool) : Nat := (L 24).toNat + (L 4).toNat + (L 20).toNat + (L 8).toNat + (L 28).toNat + (L 12).toNat + (L 16).toNat
theorem cntD_le (L : Nat → Bool) : cntD L ≤ 7 := by
  unfold cntD
  have := fun b : Bool => Bool.toNat_le b
  have h1 := this (L 24); have h2 := this (L 4); have h3 := this (L 20); have h4 := this (L 8); have h5 := this (L 28); have h6 := this (L 12); have h7 := this (L 16)
  omega
def JM (g X : Nat) (W0 : World) (L : Nat → Bool) (w : World) : Prop :=
  (L 0 = false → w = W0 ∧ ∀ i, i < 7 → L (insD i) = false) ∧ (L 0 = true → ∃ D, w.ownsMap Try.prog 23 (placeR X) g (cntD L) D ∧ PartD D (fun i => L (insD i)) ∧ Below g W0 w)
theorem seven_of {p : Nat → Prop} (h : ∀ i, i < 7 → p i) : p 0 ∧ p 1 ∧ p 2 ∧ p 3 ∧ p 4 ∧ p 5 ∧ p 6 :=
  ⟨h 0 (by decide), h 1 (by decide), h 2 (by decide), h 3 (by decide), h 4 (by decide), h 5 (by decide), h 6 (by decide)⟩
theorem partD_congr {D : DataW Unit} {S S' : Nat → Bool} (h : PartD D S) (hs : ∀ i, i < 7 → S i = S' i) : PartD D S' := by
  intro t
  obtain ⟨q1, q2⟩ := h t
  refine ⟨?_, fun i hi h1 z => q2 i hi (by rw [hs i (idxD_lt hi).1]; exact h1) z⟩
  rw [q1]
  cases hi : idxD t with
  | none => rfl
  | some i => simp only; rw [hs i (idxD_lt hi).1]
theorem JM.congr {g X : Nat} {W0 w : World} {L L' : Nat → Bool} (h : JM g X W0 L w) (h0 : L 0 = L' 0) (hi : ∀ i, i < 7 → L (insD i) = L' (insD i)) : JM g X W0 L' w := by
  obtain ⟨p1, p2, p3, p4, p5, p6, p7⟩ := seven_of (p := fun i => L (insD i) = L' (insD i)) hi
  simp only [insD, List.getD_cons_zero, List.getD_cons_succ] at p1 p2 p3 p4 p5 p6 p7
  have hc : cntD L = cntD L' := by unfold cntD; rw [p1, p2, p3, p4, p5, p6, p7]
  refine ⟨fun e => ?_, fun e => ?_⟩
  · obtain ⟨r1, r2⟩ := h.1 (h0.trans e)
    exact ⟨r1, fun i h7 => by rw [← hi i h7]; exact r2 i h7⟩
  · obtain ⟨D, r1, r2, r3⟩ := h.2 (h0.trans e)
    exact ⟨D, hc ▸ r1, partD_congr r2 hi, r3⟩
theorem JM.pure {g X : Nat} {W0 w : World} {L : Nat → Bool} (h : JM g X W0 L w) {j : Nat} (h0 : j ≠ 0) (hj : ∀ i, i < 7 → insD i ≠ j) : JM g X W0 (upd L j) w :=
  h.congr (by rw [upd_other _ (Ne.symm h0)]) fun i hi => by rw [upd_other _ (hj i hi)]
theorem JM.make {g X : Nat} {W0 w : World} {L : Nat → Bool} (h : JM g X W0 L w) (hg : W0.heap.size = g) (h0 : L 0 = false) : .map (some w.heap.size) = Value.map (some g) ∧ JM g X W0 (upd L 0) (w.alloc (.map #[] 0)) := by
  obtain ⟨rfl, hi⟩ := h.1 h0
  subst hg
  refine ⟨rfl, ⟨fun e => (by rw [upd_same] at e; cases e), fun _ => ⟨.map [], ?_, ?_, (Below.refl _ _).alloc (Nat.le_refl _) _⟩⟩⟩
  · exact (World.ownsMap_made w Try.prog 23 (placeR X)).mono (Nat.zero_le _)
  · refine partD_zero fun i h7 => ?_
    have hne : insD i ≠ 0 := by
      have : i = 0 ∨ i = 1 ∨ i = 2 ∨ i = 3 ∨ i = 4 ∨ i = 5 ∨ i = 6 := by omega
      rcases this with rfl | rfl | rfl | rfl | rfl | rfl | rfl <;> decide
    rw [upd_other _ hne]
    exact hi i h7
theorem insD_inj {i j : Nat} (hi : i < 7) (hj : j < 7) (h : insD i = insD j) : i = j := by
  have h1 : i = 0 ∨ i = 1 ∨ i = 2 ∨ i = 3 ∨ i = 4 ∨ i = 5 ∨ i = 6 := by omega
  have h2 : j = 0 ∨ j = 1 ∨ j = 2 ∨ j = 3 ∨ j = 4 ∨ j = 5 ∨ j = 6 := by omega
  rcases h1 with rfl | rfl | rfl | rfl | rfl | rfl | rfl <;> rcases h2 with rfl | rfl | rfl | rfl | rfl | rfl | rfl <;> first | rfl | (exact absurd h (by decide))
theorem cntD_upd {L : Nat → Bool} {i : Nat} (hi : i < 7) (h : L (insD i) = false) : cntD (upd L (insD i)) = cntD L + 1 := by
  have : i = 0 ∨ i = 1 ∨ i = 2 ∨ i = 3 ∨ i = 4 ∨ i = 5 ∨ i = 6 := by omega
  rcases this with rfl | rfl | rfl | rfl | rfl | rfl | rfl
  all_goals simp only [insD, List.getD_cons_zero, List.getD_cons_succ] at h ⊢
  all_goals simp [cntD, upd, h]
  all_goals omega
/-- A map's literal's step. -/
theorem JM.insert {g X : Nat} {W0 w : World} {L : Nat → Bool} (h : JM g X W0 L w) (hW : W0.heap.size = g) {i : Nat} (hi : i < 7) (h0 : L 0 = true) (hL : L (insD i) = false) :
    ∃ w', (Instr.mapUpdate 49 (.map (some g)) (.int .u64 (tagsD.getD i 0)) (.pointer (some ⟨X, i + 1, none⟩))).run Try.prog w = .ok () w' ∧ JM g X W0 (upd L (insD i)) w' := by
  obtain ⟨D, ho, hD, hb⟩ := h.2 h0
  have ht := tagsD_pos hi
  have hc := cntD_le L
  obtain ⟨w', hr, ho', hg⟩ := ho.update law_u64 Try.underlying49 (by unfold maxLen; omega) (key_u64 ht.2.2) (placeR_at X (i + 1))
  have hlt := ho.lt
  have hgs : g ≤ w.heap.size := by omega
  have hne : (0 : Nat) ≠ insD i := by
    have : i = 0 ∨ i = 1 ∨ i = 2 ∨ i = 3 ∨ i = 4 ∨ i = 5 ∨ i = 6 := by omega
    rcases this with rfl | rfl | rfl | rfl | rfl | rfl | rfl <;> decide
  refine ⟨w', hr, ⟨fun e => (by rw [upd_other _ hne, h0] at e; cases e), fun _ => ⟨_, (cntD_upd hi hL) ▸ ho', ?_, hb.grown hg hgs (fun q e => by injection e with e; omega)⟩⟩⟩
  exact partD_put hi ho.isMap hD (upd_same _ _) fun j hj hji => upd_other _ fun e => hji (insD_inj hj hi e)
theorem step_insert {P : Program} {o : Oper} {a : Act} {w w' : World} {post : Value → World → Prop} (t : TypeId) (m k v : Operand) (hop : o.op = Op.insert t m k v) (M K V : Value) (hm : a.eval m = M) (hk : a.eval k = K) (hv : a.eval v = V)
    (hr : (Instr.mapUpdate t M K V).run P w = .ok () w') (h : post undef w') : StepFact P o a w post := by
  intro K' Q hK
  have := hK _ _ h
  unfold Oper.wp Oper.upon
  simpa [execOp, hop, hm, hk, hv, hr, Result.andThen] using this
theorem step_makeMap {P : Program} {o : Oper} {a : Act} {w : World} {post : Value → World → Prop} (t : TypeId) (hop : o.op = Op.makeMap t none) (h : post (.map (some w.heap.size)) (w.alloc (.map #[] 0))) : StepFact P o a w post := by
  intro K' Q hK
  have := hK _ _ h
  unfold Oper.wp Oper.upon
  simpa [execOp, hop, Result.andThen, run_makeMap] using this
theorem step_nil {P : Program} {o : Oper} {a : Act} {w : World} {post : Value → World → Prop} (x : Operand) (p : Addr) (hop : o.op = Op.nilCheck x) (hx : a.eval x = .pointer (some p)) (h : post (.pointer (some p)) w) : StepFact P o a w post := by
  intro K' Q hK
  have := hK _ _ h
  unfold Oper.wp Oper.upon
  simpa [execOp, hop, hx, Result.andThen] using this
theorem eval_frame (n : Nat) (y : Nat → Value) (d : List Deferred) {t : Nat} (h : t < n) : (⟨frameOf n y, d⟩ : Act).eval (.tmp t) = y t := by
  simp [Act.eval, frameOf_get _ _ _ h]
theorem fr26 (y : Nat → Value) : frameOf 26 y = #[y 0, y 1, y 2, y 3, y 4, y 5, y 6, y 7, y 8, y 9, y 10, y 11, y 12, y 13, y 14, y 15, y 16, y 17, y 18, y 19, y 20, y 21, y 22, y 23, y 24, y 25] := rfl
theorem insD_not {j : Nat} (h : j ≠ 24 ∧ j ≠ 4 ∧ j ≠ 20 ∧ j ≠ 8 ∧ j ≠ 28 ∧ j ≠ 12 ∧ j ≠ 16) : ∀ i, i < 7 → insD i ≠ j := by
  intro i hi
  have : i = 0 ∨ i = 1 ∨ i = 2 ∨ i = 3 ∨ i = 4 ∨ i = 5 ∨ i = 6 := by omega
  rcases this with rfl | rfl | rfl | rfl | rfl | rfl | rfl <;> simp only [insD, List.getD_cons_zero, List.getD_cons_succ] <;> omega

theorem insD_bd {i : Nat} (hi : i < 7) : insD i < 31 := by
  have : i = 0 ∨ i = 1 ∨ i = 2 ∨ i = 3 ∨ i = 4 ∨ i = 5 ∨ i = 6 := by omega
  rcases this with rfl | rfl | rfl | rfl | rfl | rfl | rfl <;> decide
theorem insD_lt {L L' : Nat → Bool} (h : ∀ i, i < 31 → L i = L' i) : ∀ i, i < 7 → L (insD i) = L' (insD i) := fun i hi => h _ (insD_bd hi)
set_option maxRecDepth 100000 in
set_option maxHeartbeats 3200000 in
theorem fieldsOf_any (X : Nat) (w : World) :
    Calls Try.prog 19 #[.pointer (some ⟨X, 0, none⟩)] w fun r w' => ∃ g, r = .returned (.map (some g)) ∧ w.heap.size ≤ g ∧ FieldsM w' g X 7 stD0.seen ∧ Below w.heap.size w w' := by
  go_enter Try.func19, Try.ntmps19
  go_wp2
  refine wp_region_inv (by kernel_rfl) 26 rfl [3, 4, 5, 6, 104, 7, 8, 9, 108, 10, 11, 12, 112, 13, 14, 15, 116, 16, 17, 18, 120, 19, 20, 21, 124, 22, 23, 24, 128, 25, 2] [.map (some w.heap.size), .pointer (some ⟨X, 0, none⟩), .pointer (some ⟨X, 0, none⟩), .pointer (some ⟨X, 2, none⟩), undef, .pointer (some ⟨X, 0, none⟩), .pointer (some ⟨X, 0, none⟩), .pointer (some ⟨X, 4, none⟩), undef, .pointer (some ⟨X, 0, none⟩), .pointer (some ⟨X, 0, none⟩), .pointer (some ⟨X, 6, none⟩), undef, .pointer (some ⟨X, 0, none⟩), .pointer (some ⟨X, 0, none⟩), .pointer (some ⟨X, 7, none⟩), undef, .pointer (some ⟨X, 0, none⟩), .pointer (some ⟨X, 0, none⟩), .pointer (some ⟨X, 3, none⟩), undef, .pointer (some ⟨X, 0, none⟩), .pointer (some ⟨X, 0, none⟩), .pointer (some ⟨X, 1, none⟩), undef, .pointer (some ⟨X, 0, none⟩), .pointer (some ⟨X, 0, none⟩), .pointer (some ⟨X, 5, none⟩), undef, .map (some w.heap.size), .map (some w.heap.size)] (JM w.heap.size X w.drew) ?hj (by kernel_rfl) ?start ?steps ?fin
  case hj => exact fun L L' w' h hJ => hJ.congr (h 0 (by decide)) (insD_lt h)
  case start => exact ⟨fun _ => ⟨rfl, fun _ _ => rfl⟩, fun h => by cases h⟩
  case steps =>
    refine ⟨?_, ?_, ?_, ?_, ?_, ?_, ?_, ?_, ?_, ?_, ?_, ?_, ?_, ?_, ?_, ?_, ?_, ?_, ?_, ?_, ?_, ?_, ?_, ?_, ?_, ?_, ?_, ?_, ?_, ?_, ?_, trivial⟩
    all_goals intro L y w2 hJ hL hy hp
    · exact step_makeMap 49 rfl ⟨fun _ => (hJ.make rfl hL).1, (hJ.make rfl hL).2⟩
    · exact step_move (.tmp 0) (.inl rfl) ⟨fun _ => (eval_frame 26 y _ (by decide)).trans (hy 0 (by decide)), hJ.pure (by decide) (insD_not (by decide))⟩
    · exact step_nil (.tmp 4) ⟨X, 0, none⟩ rfl ((eval_frame 26 y _ (by decide)).trans ((hp 1 (by decide)).2 (by decide))) ⟨fun _ => rfl, hJ.pure (by decide) (insD_not (by decide))⟩
    · have e1 : y 5 = .pointer (some ⟨X, 0, none⟩) := (hp 2 (by decide)).2 (by decide)
      have hJ2 := Lib.hid (hJ.pure (by decide) (insD_not (by decide)) : JM w.heap.size X w.drew (upd L 3) w2)
      intro K Q hK
      simp only [fr26] at hK ⊢
      clear hy hp hJ
      rw [e1] at hK ⊢
      go_simp
      exact hK _ _ ⟨fun _ => rfl, hJ2.out⟩
    · obtain ⟨w3, hr, hJ3⟩ := hJ.insert rfl (i := 1) (by decide) (hp 0 (by decide)).1 hL
      exact step_insert _ (.tmp 3) (.const (.int .u64 5)) (.tmp 6) rfl _ _ _ ((eval_frame 26 y _ (by decide)).trans ((hp 0 (by decide)).2 (by decide))) rfl ((eval_frame 26 y _ (by decide)).trans ((hp 3 (by decide)).2 (by decide))) hr ⟨fun h => absurd h (by decide), hJ3⟩
    · exact step_move (.tmp 0) (.inl rfl) ⟨fun _ => (eval_frame 26 y _ (by decide)).trans (hy 0 (by decide)), hJ.pure (by decide) (insD_not (by decide))⟩
    · exact step_nil (.tmp 7) ⟨X, 0, none⟩ rfl ((eval_frame 26 y _ (by decide)).trans ((hp 5 (by decide)).2 (by decide))) ⟨fun _ => rfl, hJ.pure (by decide) (insD_not (by decide))⟩
    · have e1 : y 8 = .pointer (some ⟨X, 0, none⟩) := (hp 6 (by decide)).2 (by decide)
      have hJ2 := Lib.hid (hJ.pure (by decide) (insD_not (by decide)) : JM w.heap.size X w.drew (upd L 7) w2)
      intro K Q hK
      simp only [fr26] at hK ⊢
      clear hy hp hJ
      rw [e1] at hK ⊢
      go_simp
      exact hK _ _ ⟨fun _ => rfl, hJ2.out⟩
    · obtain ⟨w3, hr, hJ3⟩ := hJ.insert rfl (i := 3) (by decide) (hp 0 (by decide)).1 hL
      exact step_insert _ (.tmp 3) (.const (.int .u64 6)) (.tmp 9) rfl _ _ _ ((eval_frame 26 y _ (by decide)).trans ((hp 0 (by decide)).2 (by decide))) rfl ((eval_frame 26 y _ (by decide)).trans ((hp 7 (by decide)).2 (by decide))) hr ⟨fun h => absurd h (by decide), hJ3⟩
    · exact step_move (.tmp 0) (.inl rfl) ⟨fun _ => (eval_frame 26 y _ (by decide)).trans (hy 0 (by decide)), hJ.pure (by decide) (insD_not (by decide))⟩
    · exact step_nil (.tmp 10) ⟨X, 0, none⟩ rfl ((eval_frame 26 y _ (by decide)).trans ((hp 9 (by decide)).2 (by decide))) ⟨fun _ => rfl, hJ.pure (by decide) (insD_not (by decide))⟩
    · have e1 : y 11 = .pointer (some ⟨X, 0, none⟩) := (hp 10 (by decide)).2 (by decide)
      have hJ2 := Lib.hid (hJ.pure (by decide) (insD_not (by decide)) : JM w.heap.size X w.drew (upd L 11) w2)
      intro K Q hK
      simp only [fr26] at hK ⊢
      clear hy hp hJ
      rw [e1] at hK ⊢
      go_simp
      exact hK _ _ ⟨fun _ => rfl, hJ2.out⟩
    · obtain ⟨w3, hr, hJ3⟩ := hJ.insert rfl (i := 5) (by decide) (hp 0 (by decide)).1 hL
      exact step_insert _ (.tmp 3) (.const (.int .u64 7)) (.tmp 12) rfl _ _ _ ((eval_frame 26 y _ (by decide)).trans ((hp 0 (by decide)).2 (by decide))) rfl ((eval_frame 26 y _ (by decide)).trans ((hp 11 (by decide)).2 (by decide))) hr ⟨fun h => absurd h (by decide), hJ3⟩
    · exact step_move (.tmp 0) (.inl rfl) ⟨fun _ => (eval_frame 26 y _ (by decide)).trans (hy 0 (by decide)), hJ.pure (by decide) (insD_not (by decide))⟩
    · exact step_nil (.tmp 13) ⟨X, 0, none⟩ rfl ((eval_frame 26 y _ (by decide)).trans ((hp 13 (by decide)).2 (by decide))) ⟨fun _ => rfl, hJ.pure (by decide) (insD_not (by decide))⟩
    · have e1 : y 14 = .pointer (some ⟨X, 0, none⟩) := (hp 14 (by decide)).2 (by decide)
      have hJ2 := Lib.hid (hJ.pure (by decide) (insD_not (by decide)) : JM w.heap.size X w.drew (upd L 15) w2)
      intro K Q hK
      simp only [fr26] at hK ⊢
      clear hy hp hJ
      rw [e1] at hK ⊢
      go_simp
      exact hK _ _ ⟨fun _ => rfl, hJ2.out⟩
    · obtain ⟨w3, hr, hJ3⟩ := hJ.insert rfl (i := 6) (by decide) (hp 0 (by decide)).1 hL
      exact step_insert _ (.tmp 3) (.const (.int .u64 8)) (.tmp 15) rfl _ _ _ ((eval_frame 26 y _ (by decide)).trans ((hp 0 (by decide)).2 (by decide))) rfl ((eval_frame 26 y _ (by decide)).trans ((hp 15 (by decide)).2 (by decide))) hr ⟨fun h => absurd h (by decide), hJ3⟩
    · exact step_move (.tmp 0) (.inl rfl) ⟨fun _ => (eval_frame 26 y _ (by decide)).trans (hy 0 (by decide)), hJ.pure (by decide) (insD_not (by decide))⟩
    · exact step_nil (.tmp 16) ⟨X, 0, none⟩ rfl ((eval_frame 26 y _ (by decide)).trans ((hp 17 (by decide)).2 (by decide))) ⟨fun _ => rfl, hJ.pure (by decide) (insD_not (by decide))⟩
    · have e1 : y 17 = .pointer (some ⟨X, 0, none⟩) := (hp 18 (by decide)).2 (by decide)
      have hJ2 := Lib.hid (hJ.pure (by decide) (insD_not (by decide)) : JM w.heap.size X w.drew (upd L 19) w2)
      intro K Q hK
      simp only [fr26] at hK ⊢
      clear hy hp hJ
      rw [e1] at hK ⊢
      go_simp
      exact hK _ _ ⟨fun _ => rfl, hJ2.out⟩
    · obtain ⟨w3, hr, hJ3⟩ := hJ.insert rfl (i := 2) (by decide) (hp 0 (by decide)).1 hL
      exact step_insert _ (.tmp 3) (.const (.int .u64 10)) (.tmp 18) rfl _ _ _ ((eval_frame 26 y _ (by decide)).trans ((hp 0 (by decide)).2 (by decide))) rfl ((eval_frame 26 y _ (by decide)).trans ((hp 19 (by decide)).2 (by decide))) hr ⟨fun h => absurd h (by decide), hJ3⟩
    · exact step_move (.tmp 0) (.inl rfl) ⟨fun _ => (eval_frame 26 y _ (by decide)).trans (hy 0 (by decide)), hJ.pure (by decide) (insD_not (by decide))⟩
    · exact step_nil (.tmp 19) ⟨X, 0, none⟩ rfl ((eval_frame 26 y _ (by decide)).trans ((hp 21 (by decide)).2 (by decide))) ⟨fun _ => rfl, hJ.pure (by decide) (insD_not (by decide))⟩
    · have e1 : y 20 = .pointer (some ⟨X, 0, none⟩) := (hp 22 (by decide)).2 (by decide)
      have hJ2 := Lib.hid (hJ.pure (by decide) (insD_not (by decide)) : JM w.heap.size X w.drew (upd L 23) w2)
      intro K Q hK
      simp only [fr26] at hK ⊢
      clear hy hp hJ
      rw [e1] at hK ⊢
      go_simp
      exact hK _ _ ⟨fun _ => rfl, hJ2.out⟩
    · obtain ⟨w3, hr, hJ3⟩ := hJ.insert rfl (i := 0) (by decide) (hp 0 (by decide)).1 hL
      exact step_insert _ (.tmp 3) (.const (.int .u64 14)) (.tmp 21) rfl _ _ _ ((eval_frame 26 y _ (by decide)).trans ((hp 0 (by decide)).2 (by decide))) rfl ((eval_frame 26 y _ (by decide)).trans ((hp 23 (by decide)).2 (by decide))) hr ⟨fun h => absurd h (by decide), hJ3⟩
    · exact step_move (.tmp 0) (.inl rfl) ⟨fun _ => (eval_frame 26 y _ (by decide)).trans (hy 0 (by decide)), hJ.pure (by decide) (insD_not (by decide))⟩
    · exact step_nil (.tmp 22) ⟨X, 0, none⟩ rfl ((eval_frame 26 y _ (by decide)).trans ((hp 25 (by decide)).2 (by decide))) ⟨fun _ => rfl, hJ.pure (by decide) (insD_not (by decide))⟩
    · have e1 : y 23 = .pointer (some ⟨X, 0, none⟩) := (hp 26 (by decide)).2 (by decide)
      have hJ2 := Lib.hid (hJ.pure (by decide) (insD_not (by decide)) : JM w.heap.size X w.drew (upd L 27) w2)
      intro K Q hK
      simp only [fr26] at hK ⊢
      clear hy hp hJ
      rw [e1] at hK ⊢
      go_simp
      exact hK _ _ ⟨fun _ => rfl, hJ2.out⟩
    · obtain ⟨w3, hr, hJ3⟩ := hJ.insert rfl (i := 4) (by decide) (hp 0 (by decide)).1 hL
      exact step_insert _ (.tmp 3) (.const (.int .u64 1610612749)) (.tmp 24) rfl _ _ _ ((eval_frame 26 y _ (by decide)).trans ((hp 0 (by decide)).2 (by decide))) rfl ((eval_frame 26 y _ (by decide)).trans ((hp 27 (by decide)).2 (by decide))) hr ⟨fun h => absurd h (by decide), hJ3⟩
    · exact step_move (.tmp 3) (.inl rfl) ⟨fun _ => (eval_frame 26 y _ (by decide)).trans ((hp 0 (by decide)).2 (by decide)), hJ.pure (by decide) (insD_not (by decide))⟩
    · exact step_move (.tmp 25) (.inr rfl) ⟨fun _ => (eval_frame 26 y _ (by decide)).trans ((hp 29 (by decide)).2 (by decide)), hJ.pure (by decide) (insD_not (by decide))⟩
  case fin =>
    intro L w' hJ hall
    simp only [putAll, List.set_cons_succ, List.set_cons_zero, Nat.reduceAdd, List.getD_cons_succ, List.getD_cons_zero]
    obtain ⟨D, ho, hD, hb⟩ := hJ.2 (hall 0 (by decide))
    have HF : Hid (FieldsM w' w.heap.size X 7 stD0.seen) := Lib.hid ⟨D, ho.mono (cntD_le L), allD_zero hD fun i hi => hall _ (insD_bd hi)⟩
    have HB : Hid (Below w.heap.size w w') := Lib.hid ((Below.refl _ w).drew.trans hb)
    clear hJ hall ho hD hb
    go_wp2
    go_ret
    exact ⟨_, rfl, Nat.le_refl _, HF.out, HB.out⟩
end Go.Proofs.Ytngjnbfjlchfgaa
