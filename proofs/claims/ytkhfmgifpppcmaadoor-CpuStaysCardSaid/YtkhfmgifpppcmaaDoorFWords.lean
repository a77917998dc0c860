/-
  What is proved here: a law for a region that draws its order: a fact on the value that each operation lays (kept under a relation on worlds), and a word J on the world by what has come up; with what has not come up still as it was, and what has come up behind all that it waits for. · a store into a block, and into another. · words for a region that draws its order and makes 'x := T{..}': a block of type T made at some time, all of its cells stored behind all; calls between them that box their arguments; everything else read from blocks that were there ahead. · a law for a region that draws its order: a fact on the value that each operation lays (kept under a relation on worlds), and a word J on the world by what has come up; the word J may speak of one slot's value too; with what has not come up still as it was, and what has come up behind all that it waits for. · a law for a region that draws its order: a fact on the value that each operation lays (kept under a relation on worlds), and a word J on the world by what has come up; the word J may speak of all slots' values too; with what has not come up still as it was, and what has come up behind all that it waits for.
  Conditions: as they say.
-/
import Derived.Test.YtkhfmgifpppcmaaDoorFRun
import Derived.Test.YtkhfmgifpppcmaaDoorBlk
namespace Go.Proofs.YtkhfmgifpppcmaaDoor
open Go.RowKit
set_option linter.unusedVariables false

/-- What is to be shown of the operations from number i on: behind those that it waits for, an operation lays its own value, and keeps the word J. -/
def StepsWord (P : Program) (ops : List Oper) (J : (Nat → Bool) → World → Prop) (n : Nat) (x : List Value) (d : List Deferred) (dsts : List Nat) (R : World → World → Prop) (F : Nat → Value → World → Prop) : Nat → List Oper → Prop
  | _, [] => True
  | i, o :: l => (∀ (L : Nat → Bool) (y : Nat → Value) (w : World), J L w → L i = false → (∀ t, t ∉ dsts → y t = x.getD t undef) → (∀ j, j ∈ preds o → L j = true ∧ (dsts.getD j 0 < n → F j (y (dsts.getD j 0)) w)) →
      (∀ k q, ops[k]? = some q → L k = true → ∀ j, j ∈ preds q → L j = true) → (∀ k, k < ops.length → L k = false → dsts.getD k 0 < n → y (dsts.getD k 0) = x.getD (dsts.getD k 0) undef) →
      StepFact P o ⟨frameOf n y, d⟩ w fun u w' => R w w' ∧ (dsts.getD i 0 < n → F i u w') ∧ J (upd L i) w') ∧ StepsWord P ops J n x d dsts R F (i + 1) l
theorem StepsWord.get {P : Program} {ops : List Oper} {J : (Nat → Bool) → World → Prop} {n : Nat} {x : List Value} {d : List Deferred} {dsts : List Nat} {R : World → World → Prop} {F : Nat → Value → World → Prop} :
    ∀ {l : List Oper} {k : Nat}, StepsWord P ops J n x d dsts R F k l → ∀ i o, l[i]? = some o →
      ∀ (L : Nat → Bool) (y : Nat → Value) (w : World), J L w → L (k + i) = false → (∀ t, t ∉ dsts → y t = x.getD t undef) → (∀ j, j ∈ preds o → L j = true ∧ (dsts.getD j 0 < n → F j (y (dsts.getD j 0)) w)) →
        (∀ k q, ops[k]? = some q → L k = true → ∀ j, j ∈ preds q → L j = true) → (∀ k, k < ops.length → L k = false → dsts.getD k 0 < n → y (dsts.getD k 0) = x.getD (dsts.getD k 0) undef) →
        StepFact P o ⟨frameOf n y, d⟩ w fun u w' => R w w' ∧ (dsts.getD (k + i) 0 < n → F (k + i) u w') ∧ J (upd L (k + i)) w'
  | [], _, _, _, _, h => by simp at h
  | o :: l, k, hs, 0, o', h => by
    simp only [List.getElem?_cons_zero, Option.some.injEq] at h
    subst h
    exact hs.1
  | o :: l, k, hs, i + 1, o', h => by
    rw [List.getElem?_cons_succ] at h
    have := hs.2.get i o' h
    rwa [show k + 1 + i = k + (i + 1) from by omega] at this

section
variable {P : Program} {Q : Exit → Act → World → Prop}
theorem wpAny_word {l : List Oper} {x : List Value} {d : List Deferred} (dsts : List Nat) (R : World → World → Prop) (F : Nat → Value → World → Prop) (J : (Nat → Bool) → World → Prop)
    (hmono : ∀ i u w w', F i u w → R w w' → F i u w') (hJ : ∀ L L' w, (∀ i, i < l.length → L i = L' i) → J L w → J L' w)
    (hok : invOk l dsts x.length = true) (hsteps : StepsWord P l J x.length x d dsts R F 0 l)
    (hend : ∀ (v : Nat → Value) (L : Nat → Bool) (w : World), J L w → (∀ i, i < l.length → L i = true) → (∀ i, i < l.length → dsts.getD i 0 < x.length → F i (v i) w) → Q .normal ⟨(putAll v 0 dsts x).toArray, d⟩ w) :
    ∀ (fuel : Nat) (listed : Array Bool) (y : Nat → Value) (w : World), left listed ≤ fuel → listed.size = l.length → (∀ t, t ∉ dsts → y t = x.getD t undef) →
      (∀ i, listed[i]? = some true → dsts.getD i 0 < x.length → F i (y (dsts.getD i 0)) w) → J (fun i => listed.getD i false) w →
      (∀ k q, l[k]? = some q → listed.getD k false = true → ∀ j, j ∈ preds q → listed.getD j false = true) → (∀ k, k < l.length → listed.getD k false = false → dsts.getD k 0 < x.length → y (dsts.getD k 0) = x.getD (dsts.getD k 0) undef) → wpAny P .any l.toArray Q fuel listed ⟨frameOf x.length y, d⟩ w := by
  simp only [invOk, Bool.and_eq_true, decide_eq_true_eq, List.all_eq_true, List.mem_range] at hok
  obtain ⟨⟨⟨hdl, hnd⟩, hfm⟩, hord⟩ := hok
  have fin : ∀ (listed : Array Bool) (y : Nat → Value) (w : World), listed.size = l.length → (∀ t, t ∉ dsts → y t = x.getD t undef) →
      (∀ i, listed[i]? = some true → dsts.getD i 0 < x.length → F i (y (dsts.getD i 0)) w) → J (fun i => listed.getD i false) w → (∀ i, i < l.length → listed[i]? = some true) → Q .normal ⟨frameOf x.length y, d⟩ w := by
    intro listed y w hsz hy hF hb hall
    have h := hend (fun i => y (dsts.getD i 0)) _ w hb (fun i hi => by rw [Array.getD_eq_getD_getElem?, hall i hi]; rfl) (fun i hi hn => hF i (hall i hi) hn)
    have e : (putAll (fun i => y (dsts.getD i 0)) 0 dsts x).toArray = frameOf x.length y := by
      obtain ⟨h1, h2, h3⟩ := putAll_get' (fun i => y (dsts.getD i 0)) dsts 0 x hnd
      apply Array.ext_getElem?
      intro t
      rw [List.getElem?_toArray]
      by_cases ht : t < x.length
      · rw [frameOf_get _ _ _ ht]
        by_cases hm : t ∈ dsts
        · obtain ⟨j, hj, hjt⟩ := List.getElem_of_mem hm
          have hj' : dsts[j]? = some t := by rw [List.getElem?_eq_getElem hj, hjt]
          have hjd : dsts.getD j 0 = t := by rw [List.getD_eq_getElem?_getD, hj']; rfl
          rw [h2 j t hj' ht, Nat.zero_add]
          simp only [hjd]
        · rw [h3 t hm, hy t hm, List.getD_eq_getElem?_getD, List.getElem?_eq_getElem ht]
          rfl
      · rw [List.getElem?_eq_none (by omega), Array.getElem?_eq_none (by rw [frameOf_size]; omega)]
    rw [e] at h
    exact h
  intro fuel
  induction fuel with
  | zero =>
    intro listed y w hf hsz hy hF hb hcl hun
    have hall : ∀ i, i < l.length → listed[i]? = some true := fun i hi => by
      have := left_zero listed.toList (by unfold left at hf; omega) i (by rw [Array.length_toList, hsz]; exact hi)
      simpa using this
    refine ⟨?_, fin listed y w hsz hy hF hb hall⟩
    apply List.eq_nil_iff_forall_not_mem.2
    intro j hj
    obtain ⟨h0, o, ho, _⟩ := mem_ready.1 hj
    have hjl : j < l.length := by
      have := (Array.getElem?_eq_some_iff.1 ho).1
      simpa using this
    rw [Array.getD_eq_getD_getElem?, hall j hjl] at h0
    cases h0
  | succ fuel ih =>
    intro listed y w hf hsz hy hF hb hcl hun
    refine ⟨fun hr => ?_, fun i hi => ?_⟩
    · refine fin listed y w hsz hy hF hb ?_
      intro i
      induction i using Nat.strongRecOn with
      | ind i ihi =>
        intro hi
        cases hli : listed[i]? with
        | none => rw [Array.getElem?_eq_none_iff] at hli; omega
        | some b =>
          cases b with
          | true => rfl
          | false =>
            exfalso
            have : i ∈ Region.ready .any l.toArray listed := by
              refine mem_ready.2 ⟨by rw [Array.getD_eq_getD_getElem?, hli]; rfl, l[i], by rw [List.getElem?_toArray, List.getElem?_eq_getElem hi], fun e he hbe => ?_⟩
              have h1 := hord i hi
              rw [List.getElem?_eq_getElem hi] at h1
              have h2 := List.all_eq_true.1 h1 e (by simpa using he)
              rw [hbe] at h2
              have h3 : e.on < i := by simpa using h2
              rw [Array.getD_eq_getD_getElem?, ihi e.on h3 (by omega)]
              rfl
            rw [hr] at this
            cases this
    · obtain ⟨h0, o, ho, hall⟩ := mem_ready.1 hi
      have ho' : l[i]? = some o := by simpa using ho
      have hil : i < l.length := (List.getElem?_eq_some_iff.1 ho').1
      have hli : listed[i]? = some false := by
        cases hli : listed[i]? with
        | none => rw [Array.getElem?_eq_none_iff] at hli; omega
        | some b => rw [Array.getD_eq_getD_getElem?, hli] at h0; rw [show b = false from h0]
      have hst := hsteps.get i o ho' (fun i => listed.getD i false) y w hb (by rw [Nat.zero_add]; show listed.getD i false = false; rw [Array.getD_eq_getD_getElem?, hli]; rfl) hy (fun j hj => by
        unfold preds at hj
        obtain ⟨e, he, rfl⟩ := List.mem_map.1 hj
        obtain ⟨he1, he2⟩ := List.mem_filter.1 he
        have hl := hall e (by simpa using he1) he2
        refine ⟨hl, hF e.on ?_⟩
        cases hle : listed[e.on]? with
        | none => rw [Array.getD_eq_getD_getElem?, hle] at hl; cases hl
        | some b => rw [Array.getD_eq_getD_getElem?, hle] at hl; rw [show b = true from hl]) hcl hun
      rw [Nat.zero_add] at hst
      obtain ⟨t, ht⟩ : ∃ t, dsts[i]? = some t := ⟨dsts[i]'(by omega), List.getElem?_eq_getElem (by omega)⟩
      have htd : dsts.getD i 0 = t := by rw [List.getD_eq_getElem?_getD, ht]; rfl
      have hfi := hfm i hil
      rw [ho', ht] at hfi
      simp only [Bool.and_eq_true, Bool.or_eq_true, decide_eq_true_eq] at hfi
      obtain ⟨hgd, hfi⟩ := hfi
      have after : ∀ u w', (R w w' ∧ (dsts.getD i 0 < x.length → F i u w') ∧ J (upd (fun i => listed.getD i false) i) w') → wpAny P .any l.toArray Q fuel (listed.setIfInBounds i true) (Act.put ⟨frameOf x.length y, d⟩ o.dst u) w' := by
        rintro u w' ⟨hR, hu, hJw⟩
        rw [htd] at hu
        have ea : (Act.put ⟨frameOf x.length y, d⟩ o.dst u) = ⟨frameOf x.length (fun s => if s = t then u else y s), d⟩ := by
          rcases hfi with ⟨h1, h2⟩ | ⟨h1, h2⟩
          · rw [h1]
            simp only [Act.put, frameOf_set]
          · have : o.dst = none := by simpa using h1
            rw [this]
            simp only [Act.put]
            congr 1
            apply Array.ext_getElem?
            intro s
            by_cases hs : s < x.length
            · rw [frameOf_get _ _ _ hs, frameOf_get _ _ _ hs, if_neg (by omega)]
            · rw [Array.getElem?_eq_none (by rw [frameOf_size]; omega), Array.getElem?_eq_none (by rw [frameOf_size]; omega)]
        rw [ea]
        have hlf := left_set listed.toList i (by simpa using hli)
        have hup : ∀ j, (listed.setIfInBounds i true).getD j false = if j = i then true else listed.getD j false := by
          intro j
          by_cases hji : j = i
          · subst hji
            rw [if_pos rfl, Array.getD_eq_getD_getElem?, Array.getElem?_setIfInBounds_self_of_lt (by omega)]; rfl
          · rw [if_neg hji, Array.getD_eq_getD_getElem?, Array.getD_eq_getD_getElem?, Array.getElem?_setIfInBounds_ne (Ne.symm hji)]
        refine ih _ _ _ ?_ (by rw [Array.size_setIfInBounds, hsz]) ?_ ?_ (hJ _ _ _ ?_ hJw) ?_ ?_
        · unfold left at hf ⊢
          rw [Array.toList_setIfInBounds]
          omega
        · intro s hs
          have hst : s ≠ t := fun e => hs (e ▸ List.mem_of_getElem? ht)
          simp only [hst, if_false]
          exact hy s hs
        · intro j hj hjt
          by_cases hji : j = i
          · subst hji
            rw [htd] at hjt ⊢
            simpa using hu hjt
          · rw [Array.getElem?_setIfInBounds_ne (Ne.symm hji)] at hj
            have hjl : j < dsts.length := by
              have := (Array.getElem?_eq_some_iff.1 hj).1
              omega
            have hne : dsts.getD j 0 ≠ t := by
              rw [List.getD_eq_getElem?_getD, List.getElem?_eq_getElem hjl]
              intro e
              have hit : dsts[i]'(by omega) = t := (List.getElem?_eq_some_iff.1 ht).2
              have := nodup_inj hnd j i hjl (by omega) (show dsts[j] = dsts[i]'(by omega) from by rw [hit]; simpa using e)
              exact hji this
            simp only [hne, if_false]
            exact hmono _ _ _ _ (hF j hj hjt) hR
        · intro j hj
          by_cases hji : j = i
          · subst hji
            rw [upd_same, Array.getD_eq_getD_getElem?, Array.getElem?_setIfInBounds_self_of_lt (by omega)]
            rfl
          · rw [upd_other _ hji, Array.getD_eq_getD_getElem?, Array.getD_eq_getD_getElem?, Array.getElem?_setIfInBounds_ne (Ne.symm hji)]
        · intro k q hk hLk j hj
          rw [hup] at hLk ⊢
          by_cases hji : j = i
          · rw [if_pos hji]
          · rw [if_neg hji]
            by_cases hki : k = i
            · subst hki
              rw [ho'] at hk
              injection hk with hk
              subst hk
              unfold preds at hj
              obtain ⟨e, he, rfl⟩ := List.mem_map.1 hj
              obtain ⟨he1, he2⟩ := List.mem_filter.1 he
              have hl := hall e (by simpa using he1) he2
              cases hle : listed[e.on]? with
              | none => rw [Array.getD_eq_getD_getElem?, hle] at hl; cases hl
              | some b => rw [Array.getD_eq_getD_getElem?, hle] at hl ⊢; exact hl
            · rw [if_neg hki] at hLk
              exact hcl k q hk hLk j hj
        · intro k hk hLk hkn
          rw [hup] at hLk
          by_cases hki : k = i
          · rw [if_pos hki] at hLk; cases hLk
          · rw [if_neg hki] at hLk
            have hne : dsts.getD k 0 ≠ t := by
              rw [List.getD_eq_getElem?_getD, List.getElem?_eq_getElem (by omega)]
              intro e
              have hit : dsts[i]'(by omega) = t := (List.getElem?_eq_some_iff.1 ht).2
              have := nodup_inj hnd k i (by omega) (by omega) (show dsts[k]'(by omega) = dsts[i]'(by omega) from by rw [hit]; simpa using e)
              exact hki this
            simp only [hne, if_false]
            exact hun k hk hLk hkn
      unfold wpOp
      rw [ho]
      simp only
      have hw : Region.wanted o (yielded l.toArray (frameOf x.length y)) = true := by
        have : o.guard = none := by simpa using hgd
        unfold Region.wanted; rw [this]
      rw [if_pos hw]
      exact .inl (hst _ _ after)

/-- The law, at a region that draws its order. -/
theorem wp_region_word {id : Nat} {l : List Oper} {x : List Value} {d : List Deferred} {w : World} (hm : P.follows .mixedOrders = true) (n : Nat) (hn : x.length = n) (dsts : List Nat) (R : World → World → Prop) (F : Nat → Value → World → Prop) (J : (Nat → Bool) → World → Prop)
    (hmono : ∀ i u w w', F i u w → R w w' → F i u w') (hJ : ∀ L L' w, (∀ i, i < l.length → L i = L' i) → J L w → J L' w)
    (hok : invOk l dsts n = true) (hst : J (fun _ => false) w.drew) (hsteps : StepsWord P l J n x d dsts R F 0 l)
    (hend : ∀ (v : Nat → Value) (L : Nat → Bool) (w' : World), J L w' → (∀ i, i < l.length → L i = true) → (∀ i, i < l.length → dsts.getD i 0 < n → F i (v i) w') → Q .normal ⟨(putAll v 0 dsts x).toArray, d⟩ w') :
    (Code.region id l.toArray true).wp P Q ⟨x.toArray, d⟩ w := by
  subst hn
  refine wp_region_any hm ?_
  change wpAny P .any l.toArray Q _ _ _ w.drew
  rw [frameOf_list x]
  have hl : ∀ n, ((List.replicate n false).filter (!·)).length = n := fun n => by induction n with
    | zero => rfl
    | succ n ih => rw [List.replicate_succ]; simp
  refine wpAny_word dsts R F J hmono hJ hok hsteps hend _ _ _ _ ?_ (by simp) (fun t ht => rfl) ?_ (hJ _ _ _ ?_ hst) (fun k q hk hLk => ?_) (fun k hk _ _ => rfl)
  · unfold left
    rw [Array.toList_replicate, hl]
    exact Nat.le_refl _
  · intro i hi
    rw [Array.getElem?_replicate] at hi
    split at hi <;> cases hi
  · intro i hi
    rw [Array.getD_eq_getD_getElem?, Array.getElem?_replicate]
    split <;> rfl
  · rw [Array.getD_eq_getD_getElem?, Array.getElem?_replicate] at hLk
    split at hLk <;> cases hLk
end
/-- A word on the world for two operations that turn it, one behind the other. -/
structure Jw (i j : Nat) (P0 P1 P2 : World → Prop) (L : Nat → Bool) (w : World) : Prop where
  p0 : L i = false → L j = false → P0 w
  p1 : L i = true → L j = false → P1 w
  p2 : L j = true → P2 w
theorem Jw.congr {i j m : Nat} {P0 P1 P2 : World → Prop} (hi : i < m) (hj : j < m) : ∀ L L' w, (∀ k, k < m → L k = L' k) → Jw i j P0 P1 P2 L w → Jw i j P0 P1 P2 L' w :=
  fun L L' w h hJ => ⟨by rw [← h i hi, ← h j hj]; exact hJ.p0, by rw [← h i hi, ← h j hj]; exact hJ.p1, by rw [← h j hj]; exact hJ.p2⟩
theorem Jw.pure {i j k : Nat} {P0 P1 P2 : World → Prop} {w : World} {L : Nat → Bool} (h : Jw i j P0 P1 P2 L w) (hi : i ≠ k) (hj : j ≠ k) : Jw i j P0 P1 P2 (upd L k) w :=
  ⟨by rw [upd_other _ hi, upd_other _ hj]; exact h.p0, by rw [upd_other _ hi, upd_other _ hj]; exact h.p1, by rw [upd_other _ hj]; exact h.p2⟩
theorem Jw.first {i j : Nat} {P0 P1 P2 : World → Prop} {w' : World} {L : Nat → Bool} (hij : j ≠ i) (hLj : L j = false) (hw : P1 w') : Jw i j P0 P1 P2 (upd L i) w' :=
  ⟨by rw [upd_same]; intro h; (cases h), fun _ _ => hw, by rw [upd_other _ hij, hLj]; intro h; cases h⟩
theorem Jw.second {i j : Nat} {P0 P1 P2 : World → Prop} {w' : World} {L : Nat → Bool} (hw : P2 w') : Jw i j P0 P1 P2 (upd L j) w' :=
  ⟨by rw [upd_same]; intro _ h; (cases h), by rw [upd_same]; intro _ h; (cases h), fun _ => hw⟩
/-- One operation that turns it. -/
structure Jo (j : Nat) (P0 P1 : World → Prop) (L : Nat → Bool) (w : World) : Prop where
  p0 : L j = false → P0 w
  p1 : L j = true → P1 w
theorem Jo.congr {j m : Nat} {P0 P1 : World → Prop} (hj : j < m) : ∀ L L' w, (∀ k, k < m → L k = L' k) → Jo j P0 P1 L w → Jo j P0 P1 L' w :=
  fun L L' w h hJ => ⟨by rw [← h j hj]; exact hJ.p0, by rw [← h j hj]; exact hJ.p1⟩
theorem Jo.pure {j k : Nat} {P0 P1 : World → Prop} {w : World} {L : Nat → Bool} (h : Jo j P0 P1 L w) (hj : j ≠ k) : Jo j P0 P1 (upd L k) w :=
  ⟨by rw [upd_other _ hj]; exact h.p0, by rw [upd_other _ hj]; exact h.p1⟩
theorem Jo.second {j : Nat} {P0 P1 : World → Prop} {w' : World} {L : Nat → Bool} (hw : P1 w') : Jo j P0 P1 (upd L j) w' :=
  ⟨by rw [upd_same]; intro h; (cases h), fun _ => hw⟩
end Go.Proofs.YtkhfmgifpppcmaaDoor
namespace Go.Proofs.YtkhfmgifpppcmaaDoor
open Go.RowKit
set_option linter.unusedVariables false

theorem Blk.set {w : World} {g : Nat} {C : Array Value} {t : TypeId} (h : Blk w g C t) (i : Nat) (u : Value) : Blk (w.setCell ⟨g, i, none⟩ u) g (C.setIfInBounds i u) t := by
  unfold Blk at *
  simp [World.setCell, h, Array.getElem?_modify]
theorem Blk.setOther {w : World} {g : Nat} {C : Array Value} {t : TypeId} (h : Blk w g C t) {a : Addr} (ha : g ≠ a.block) (u : Value) : Blk (w.setCell a u) g C t := by
  unfold Blk at *
  rw [Below.heap_setCell _ _ _ _ ha, h]
end Go.Proofs.YtkhfmgifpppcmaaDoor
namespace Go.Proofs.YtkhfmgifpppcmaaDoor
open Go.RowKit
set_option linter.unusedVariables false

theorem blk_alloc_cases {w : World} {C' C : Array Value} {t T : TypeId} {g : Nat} (h : Blk (w.alloc (.cells C' t)) g C T) : Blk w g C T ∨ (g = w.heap.size ∧ C = C' ∧ T = t) := by
  have hl := h.lt
  rw [World.size_alloc] at hl
  by_cases hg : g = w.heap.size
  · subst hg
    have h1 := Blk.new w C' t
    unfold Blk at h h1
    rw [h1] at h
    injection h with h
    injection h with h2 h3
    exact .inr ⟨rfl, h2.symm, h3.symm⟩
  · left
    have hb : Below w.heap.size w (w.alloc (.cells C' t)) := (Below.refl _ _).alloc (Nat.le_refl _) _
    unfold Blk at h ⊢
    rw [← hb.block g (by omega)]
    exact h
theorem Blk.sets {w : World} {g g' i : Nat} {C : Array Value} {t : TypeId} (h : Blk w g C t) (v : Value) : ∃ C', Blk (w.setCell ⟨g', i, none⟩ v) g C' t ∧ C'.size = C.size := by
  by_cases e : g = g'
  · subst e; exact ⟨_, h.set i v, by simp⟩
  · exact ⟨C, h.setOther e v, rfl⟩
theorem Blk.unset {w : World} {g g' i : Nat} {C : Array Value} {t : TypeId} {v : Value} (h : Blk (w.setCell ⟨g', i, none⟩ v) g C t) : ∃ C', Blk w g C' t := by
  by_cases e : g = g'
  · subst e
    have hl := h.lt
    rw [World.size_setCell] at hl
    unfold Blk at h ⊢
    simp only [World.setCell, Array.getElem?_modify, if_pos] at h
    rw [Array.getElem?_eq_getElem hl] at h ⊢
    revert h
    cases w.heap[g] with
    | cells C0 t0 f0 => 
      intro h
      simp at h
      obtain ⟨h1, h2, h3⟩ := h
      subst h2; subst h3
      exact ⟨C0, rfl⟩
    | _ => intro h; simp at h
  · unfold Blk at h ⊢
    rw [Below.heap_setCell _ _ _ _ e] at h
    exact ⟨C, h⟩
theorem Blk.same {w : World} {g : Nat} {C C' : Array Value} {t t' : TypeId} (h : Blk w g C t) (h' : Blk w g C' t') : C = C' ∧ t = t' := by
  unfold Blk at h h'
  rw [h'] at h
  injection h with h
  injection h with h2 h3
  exact ⟨h2.symm, h3.symm⟩
/-- From block B0 on: no block of type T; one at the most; all hold V. -/
def NoB (B0 : Nat) (T : TypeId) (w : World) : Prop := ∀ g C, B0 ≤ g → ¬ Blk w g C T
def OneB (B0 : Nat) (T : TypeId) (w : World) : Prop := ∀ g g' C C', B0 ≤ g → B0 ≤ g' → Blk w g C T → Blk w g' C' T → g = g'
def AllB (B0 : Nat) (T : TypeId) (V : Array Value) (w : World) : Prop := ∀ g C, B0 ≤ g → Blk w g C T → C = V
/-- All that was there ahead stays; of what came since the sizes and the types stay. -/
structure Rbx (B0 : Nat) (w w' : World) : Prop where
  bel : Below B0 w w'
  kp : ∀ g C T, B0 ≤ g → Blk w g C T → ∃ C', Blk w' g C' T ∧ C'.size = C.size
theorem Rbx.refl (B0 : Nat) (w : World) : Rbx B0 w w := ⟨Below.refl _ _, fun g C T _ h => ⟨C, h, rfl⟩⟩
theorem Rbx.later {B0 : Nat} {w w' : World} (hB : B0 ≤ w.heap.size) (h : Below w.heap.size w w') : Rbx B0 w w' := ⟨h.mono hB, fun g C T _ hb => ⟨C, hb.later h, rfl⟩⟩
theorem Rbx.set {B0 g : Nat} {w w' : World} (h : Rbx B0 w w') (hg : B0 ≤ g) (i : Nat) (v : Value) : Rbx B0 w (w'.setCell ⟨g, i, none⟩ v) :=
  ⟨h.bel.setCell hg v, fun g' C T hB hb => by
    obtain ⟨C1, h1, e1⟩ := h.kp g' C T hB hb
    obtain ⟨C2, h2, e2⟩ := h1.sets (g' := g) (i := i) v
    exact ⟨C2, h2, e2.trans e1⟩⟩
/-- A pointer to a block of type T of k cells, made since. -/
def Fb (B0 : Nat) (T : TypeId) (k : Nat) (u : Value) (w : World) : Prop := ∃ g C, u = .pointer (some ⟨g, 0, none⟩) ∧ B0 ≤ g ∧ Blk w g C T ∧ C.size = k
def MonoR (R : World → World → Prop) (f : Value → World → Prop) : Prop := ∀ u w w', f u w → R w w' → f u w'
theorem factsOf_monoR {R : World → World → Prop} {Fs : List (Value → World → Prop)} (h : ∀ f ∈ Fs, MonoR R f) : ∀ (i : Nat) (u : Value) (w w' : World), factsOf Fs i u w → R w w' → factsOf Fs i u w' := by
  intro i u w w' hf hb
  unfold factsOf at *
  rw [List.getD_eq_getElem?_getD] at *
  cases e : Fs[i]? with
  | none => trivial
  | some f =>
    rw [e] at hf
    exact h f (List.mem_of_getElem? e) _ _ _ hf hb
theorem monoR_cons {R : World → World → Prop} {f : Value → World → Prop} {Fs : List (Value → World → Prop)} (h : MonoR R f) (k : ∀ f ∈ Fs, MonoR R f) : ∀ x ∈ f :: Fs, MonoR R x := by
  intro x hx
  rcases List.mem_cons.1 hx with rfl | hx
  · exact h
  · exact k x hx
theorem monoR_nil (R : World → World → Prop) : ∀ f ∈ ([] : List (Value → World → Prop)), MonoR R f := fun _ h => by cases h
theorem Is.monoR (R : World → World → Prop) (v : Value) : MonoR R (Is v) := fun _ _ _ h _ => h
def AnyB : Value → World → Prop := fun _ _ => True
theorem AnyB.monoR (R : World → World → Prop) : MonoR R AnyB := fun _ _ _ _ _ => trivial
theorem Fb.monoR (B0 : Nat) (T : TypeId) (k : Nat) : MonoR (Rbx B0) (Fb B0 T k) := fun _ _ _ h hR => by
  obtain ⟨g, C, e, hB, hb, hk⟩ := h
  obtain ⟨C', h1, e1⟩ := hR.kp g C T hB hb
  exact ⟨g, C', e, hB, h1, e1.trans hk⟩
/-- The word on the world: ahead of the block, behind it, behind the store. -/
def Jb (i j : Nat) (wd : World) (T : TypeId) (V : Array Value) (L : Nat → Bool) (w : World) : Prop :=
  Jw i j (fun w => Below wd.heap.size wd w ∧ NoB wd.heap.size T w) (fun w => Below wd.heap.size wd w ∧ OneB wd.heap.size T w) (fun w => Below wd.heap.size wd w ∧ AllB wd.heap.size T V w) L w
theorem Jb.congr {i j m : Nat} {wd : World} {T : TypeId} {V : Array Value} (hi : i < m) (hj : j < m) : ∀ L L' w, (∀ k, k < m → L k = L' k) → Jb i j wd T V L w → Jb i j wd T V L' w := Jw.congr hi hj
theorem Jb.pure {i j k : Nat} {wd w : World} {T : TypeId} {V : Array Value} {L : Nat → Bool} (h : Jb i j wd T V L w) (hi : i ≠ k) (hj : j ≠ k) : Jb i j wd T V (upd L k) w := Jw.pure h hi hj
theorem Jb.start {i j : Nat} {wd : World} {T : TypeId} {V : Array Value} : Jb i j wd T V (fun _ => false) wd :=
  ⟨fun _ _ => ⟨Below.refl _ _, fun g C hB hb => by have := hb.lt; omega⟩, fun h _ => (by cases h), fun h => (by cases h)⟩
theorem Jb.bel {i j : Nat} {wd w : World} {T : TypeId} {V : Array Value} {L : Nat → Bool} (h : Jb i j wd T V L w) : Below wd.heap.size wd w := by
  cases hj : L j with
  | true => exact (h.p2 hj).1
  | false =>
    cases hi : L i with
    | true => exact (h.p1 hi hj).1
    | false => exact (h.p0 hi hj).1
theorem Jb.alloc {i j k : Nat} {wd w : World} {T t : TypeId} {V C : Array Value} {L : Nat → Bool} (h : Jb i j wd T V L w) (hi : i ≠ k) (hj : j ≠ k) (ht : T ≠ t) : Jb i j wd T V (upd L k) (w.alloc (.cells C t)) := by
  have hs := h.bel.size
  have old : ∀ g C', Blk (w.alloc (.cells C t)) g C' T → Blk w g C' T := fun g C' hb => by
    rcases blk_alloc_cases hb with h1 | ⟨_, _, h3⟩
    · exact h1
    · exact absurd h3 ht
  refine ⟨?_, ?_, ?_⟩
  · rw [upd_other _ hi, upd_other _ hj]
    intro h1 h2
    obtain ⟨hb, hn⟩ := h.p0 h1 h2
    exact ⟨hb.alloc hs _, fun g C' hB hx => hn g C' hB (old g C' hx)⟩
  · rw [upd_other _ hi, upd_other _ hj]
    intro h1 h2
    obtain ⟨hb, hn⟩ := h.p1 h1 h2
    exact ⟨hb.alloc hs _, fun g g' C1 C2 hB hB' hx hy => hn g g' C1 C2 hB hB' (old _ _ hx) (old _ _ hy)⟩
  · rw [upd_other _ hj]
    intro h1
    obtain ⟨hb, hn⟩ := h.p2 h1
    exact ⟨hb.alloc hs _, fun g C1 hB hx => hn g C1 hB (old _ _ hx)⟩
/-- The block is made. -/
theorem Jb.first {i j : Nat} {wd w : World} {T : TypeId} {V C : Array Value} {L : Nat → Bool} (h : Jb i j wd T V L w) (hij : j ≠ i) (hi : L i = false) (hj : L j = false) : Jb i j wd T V (upd L i) (w.alloc (.cells C T)) := by
  obtain ⟨hb, hn⟩ := h.p0 hi hj
  refine Jw.first hij hj ⟨hb.alloc hb.size _, fun g g' C1 C2 hB hB' hx hy => ?_⟩
  rcases blk_alloc_cases hx with h1 | ⟨h1, _, _⟩
  · exact absurd h1 (hn g C1 hB)
  · rcases blk_alloc_cases hy with h2 | ⟨h2, _, _⟩
    · exact absurd h2 (hn g' C2 hB')
    · rw [h1, h2]
/-- All its cells are stored. -/
theorem Jb.second {i j g : Nat} {wd w w' : World} {T : TypeId} {V C : Array Value} {L : Nat → Bool} (h : Jb i j wd T V L w) (hi : L i = true) (hj : L j = false) (hB : wd.heap.size ≤ g) (hb : Blk w g C T) (hV : Blk w' g V T) (hR : Rbx wd.heap.size w w') (hty : ∀ g' C1, Blk w' g' C1 T → ∃ C2, Blk w g' C2 T) : Jb i j wd T V (upd L j) w' := by
  obtain ⟨hbe, hn⟩ := h.p1 hi hj
  refine Jw.second ⟨hbe.trans hR.bel, fun g' C1 hB' hx => ?_⟩
  obtain ⟨C2, h2⟩ := hty g' C1 hx
  obtain rfl := hn g g' C C2 hB hB' hb h2
  exact (hx.same hV).1
theorem Jb.done {i j : Nat} {wd w : World} {T : TypeId} {V : Array Value} {L : Nat → Bool} (h : Jb i j wd T V L w) (hj : L j = true) : Below wd.heap.size wd w ∧ AllB wd.heap.size T V w := h.p2 hj
theorem arr4 {C : Array Value} (h : C.size = 4) : ∃ a b c d, C = #[a, b, c, d] := by
  obtain ⟨l⟩ := C
  match l, h with
  | [a, b, c, d], _ => exact ⟨a, b, c, d, rfl⟩
theorem arr6 {C : Array Value} (h : C.size = 6) : ∃ a b c d e f, C = #[a, b, c, d, e, f] := by
  obtain ⟨l⟩ := C
  match l, h with
  | [a, b, c, d, e, f], _ => exact ⟨a, b, c, d, e, f, rfl⟩
theorem Blk.all4 {w : World} {g : Nat} {t : TypeId} {c0 c1 c2 c3 : Value} (h : Blk w g #[c0, c1, c2, c3] t) (v0 v1 v2 v3 : Value) : Blk ((((w.setCell ⟨g, 0, none⟩ v0).setCell ⟨g, 1, none⟩ v1).setCell ⟨g, 2, none⟩ v2).setCell ⟨g, 3, none⟩ v3) g #[v0, v1, v2, v3] t := by
  have h0 : Blk (w.setCell ⟨g, 0, none⟩ v0) g #[v0, c1, c2, c3] t := by have q := h.set 0 v0; exact q
  have h1 : Blk ((w.setCell ⟨g, 0, none⟩ v0).setCell ⟨g, 1, none⟩ v1) g #[v0, v1, c2, c3] t := by have q := h0.set 1 v1; exact q
  have h2 : Blk (((w.setCell ⟨g, 0, none⟩ v0).setCell ⟨g, 1, none⟩ v1).setCell ⟨g, 2, none⟩ v2) g #[v0, v1, v2, c3] t := by have q := h1.set 2 v2; exact q
  have q := h2.set 3 v3; exact q
theorem Blk.all6 {w : World} {g : Nat} {t : TypeId} {c0 c1 c2 c3 c4 c5 : Value} (h : Blk w g #[c0, c1, c2, c3, c4, c5] t) (v0 v1 v2 v3 v4 v5 : Value) : Blk ((((((w.setCell ⟨g, 0, none⟩ v0).setCell ⟨g, 1, none⟩ v1).setCell ⟨g, 2, none⟩ v2).setCell ⟨g, 3, none⟩ v3).setCell ⟨g, 4, none⟩ v4).setCell ⟨g, 5, none⟩ v5) g #[v0, v1, v2, v3, v4, v5] t := by
  have h0 : Blk (w.setCell ⟨g, 0, none⟩ v0) g #[v0, c1, c2, c3, c4, c5] t := by have q := h.set 0 v0; exact q
  have h1 : Blk ((w.setCell ⟨g, 0, none⟩ v0).setCell ⟨g, 1, none⟩ v1) g #[v0, v1, c2, c3, c4, c5] t := by have q := h0.set 1 v1; exact q
  have h2 : Blk (((w.setCell ⟨g, 0, none⟩ v0).setCell ⟨g, 1, none⟩ v1).setCell ⟨g, 2, none⟩ v2) g #[v0, v1, v2, c3, c4, c5] t := by have q := h1.set 2 v2; exact q
  have h3 : Blk ((((w.setCell ⟨g, 0, none⟩ v0).setCell ⟨g, 1, none⟩ v1).setCell ⟨g, 2, none⟩ v2).setCell ⟨g, 3, none⟩ v3) g #[v0, v1, v2, v3, c4, c5] t := by have q := h2.set 3 v3; exact q
  have h4 : Blk (((((w.setCell ⟨g, 0, none⟩ v0).setCell ⟨g, 1, none⟩ v1).setCell ⟨g, 2, none⟩ v2).setCell ⟨g, 3, none⟩ v3).setCell ⟨g, 4, none⟩ v4) g #[v0, v1, v2, v3, v4, c5] t := by have q := h3.set 4 v4; exact q
  have q := h4.set 5 v5; exact q
end Go.Proofs.YtkhfmgifpppcmaaDoor
namespace Go.Proofs.YtkhfmgifpppcmaaDoor
open Go.RowKit
set_option linter.unusedVariables false

/-- What is to be shown of the operations from number i on: behind those that it waits for, an operation lays its own value, and keeps the word J. -/
def StepsY (P : Program) (ops : List Oper) (tg : Nat) (J : (Nat → Bool) → Value → World → Prop) (n : Nat) (x : List Value) (d : List Deferred) (dsts : List Nat) (R : World → World → Prop) (F : Nat → Value → World → Prop) : Nat → List Oper → Prop
  | _, [] => True
  | i, o :: l => (∀ (L : Nat → Bool) (y : Nat → Value) (w : World), J L (y tg) w → L i = false → (∀ t, t ∉ dsts → y t = x.getD t undef) → (∀ j, j ∈ preds o → L j = true ∧ (dsts.getD j 0 < n → F j (y (dsts.getD j 0)) w)) →
      (∀ k q, ops[k]? = some q → L k = true → ∀ j, j ∈ preds q → L j = true) → (∀ k, k < ops.length → L k = false → dsts.getD k 0 < n → y (dsts.getD k 0) = x.getD (dsts.getD k 0) undef) →
      StepFact P o ⟨frameOf n y, d⟩ w fun u w' => R w w' ∧ (dsts.getD i 0 < n → F i u w') ∧ J (upd L i) (if dsts.getD i 0 = tg then u else y tg) w') ∧ StepsY P ops tg J n x d dsts R F (i + 1) l
theorem StepsY.get {P : Program} {ops : List Oper} {tg : Nat} {J : (Nat → Bool) → Value → World → Prop} {n : Nat} {x : List Value} {d : List Deferred} {dsts : List Nat} {R : World → World → Prop} {F : Nat → Value → World → Prop} :
    ∀ {l : List Oper} {k : Nat}, StepsY P ops tg J n x d dsts R F k l → ∀ i o, l[i]? = some o →
      ∀ (L : Nat → Bool) (y : Nat → Value) (w : World), J L (y tg) w → L (k + i) = false → (∀ t, t ∉ dsts → y t = x.getD t undef) → (∀ j, j ∈ preds o → L j = true ∧ (dsts.getD j 0 < n → F j (y (dsts.getD j 0)) w)) →
        (∀ k q, ops[k]? = some q → L k = true → ∀ j, j ∈ preds q → L j = true) → (∀ k, k < ops.length → L k = false → dsts.getD k 0 < n → y (dsts.getD k 0) = x.getD (dsts.getD k 0) undef) →
        StepFact P o ⟨frameOf n y, d⟩ w fun u w' => R w w' ∧ (dsts.getD (k + i) 0 < n → F (k + i) u w') ∧ J (upd L (k + i)) (if dsts.getD (k + i) 0 = tg then u else y tg) w'
  | [], _, _, _, _, h => by simp at h
  | o :: l, k, hs, 0, o', h => by
    simp only [List.getElem?_cons_zero, Option.some.injEq] at h
    subst h
    exact hs.1
  | o :: l, k, hs, i + 1, o', h => by
    rw [List.getElem?_cons_succ] at h
    have := hs.2.get i o' h
    rwa [show k + 1 + i = k + (i + 1) from by omega] at this

section
variable {P : Program} {Q : Exit → Act → World → Prop}
theorem wpAny_y {l : List Oper} {x : List Value} {d : List Deferred} (dsts : List Nat) (R : World → World → Prop) (F : Nat → Value → World → Prop) (tg : Nat) (J : (Nat → Bool) → Value → World → Prop)
    (hmono : ∀ i u w w', F i u w → R w w' → F i u w') (hJ : ∀ L L' u w, (∀ i, i < l.length → L i = L' i) → J L u w → J L' u w)
    (hok : invOk l dsts x.length = true) (hsteps : StepsY P l tg J x.length x d dsts R F 0 l)
    (hend : ∀ (v : Nat → Value) (L : Nat → Bool) (w : World), (∀ i, dsts.getD i 0 = tg → J L (v i) w) → (∀ i, i < l.length → L i = true) → (∀ i, i < l.length → dsts.getD i 0 < x.length → F i (v i) w) → Q .normal ⟨(putAll v 0 dsts x).toArray, d⟩ w) :
    ∀ (fuel : Nat) (listed : Array Bool) (y : Nat → Value) (w : World), left listed ≤ fuel → listed.size = l.length → (∀ t, t ∉ dsts → y t = x.getD t undef) →
      (∀ i, listed[i]? = some true → dsts.getD i 0 < x.length → F i (y (dsts.getD i 0)) w) → J (fun i => listed.getD i false) (y tg) w →
      (∀ k q, l[k]? = some q → listed.getD k false = true → ∀ j, j ∈ preds q → listed.getD j false = true) → (∀ k, k < l.length → listed.getD k false = false → dsts.getD k 0 < x.length → y (dsts.getD k 0) = x.getD (dsts.getD k 0) undef) → wpAny P .any l.toArray Q fuel listed ⟨frameOf x.length y, d⟩ w := by
  simp only [invOk, Bool.and_eq_true, decide_eq_true_eq, List.all_eq_true, List.mem_range] at hok
  obtain ⟨⟨⟨hdl, hnd⟩, hfm⟩, hord⟩ := hok
  have fin : ∀ (listed : Array Bool) (y : Nat → Value) (w : World), listed.size = l.length → (∀ t, t ∉ dsts → y t = x.getD t undef) →
      (∀ i, listed[i]? = some true → dsts.getD i 0 < x.length → F i (y (dsts.getD i 0)) w) → J (fun i => listed.getD i false) (y tg) w → (∀ i, i < l.length → listed[i]? = some true) → Q .normal ⟨frameOf x.length y, d⟩ w := by
    intro listed y w hsz hy hF hb hall
    have h := hend (fun i => y (dsts.getD i 0)) _ w (fun i e => by rw [e]; exact hb) (fun i hi => by rw [Array.getD_eq_getD_getElem?, hall i hi]; rfl) (fun i hi hn => hF i (hall i hi) hn)
    have e : (putAll (fun i => y (dsts.getD i 0)) 0 dsts x).toArray = frameOf x.length y := by
      obtain ⟨h1, h2, h3⟩ := putAll_get' (fun i => y (dsts.getD i 0)) dsts 0 x hnd
      apply Array.ext_getElem?
      intro t
      rw [List.getElem?_toArray]
      by_cases ht : t < x.length
      · rw [frameOf_get _ _ _ ht]
        by_cases hm : t ∈ dsts
        · obtain ⟨j, hj, hjt⟩ := List.getElem_of_mem hm
          have hj' : dsts[j]? = some t := by rw [List.getElem?_eq_getElem hj, hjt]
          have hjd : dsts.getD j 0 = t := by rw [List.getD_eq_getElem?_getD, hj']; rfl
          rw [h2 j t hj' ht, Nat.zero_add]
          simp only [hjd]
        · rw [h3 t hm, hy t hm, List.getD_eq_getElem?_getD, List.getElem?_eq_getElem ht]
          rfl
      · rw [List.getElem?_eq_none (by omega), Array.getElem?_eq_none (by rw [frameOf_size]; omega)]
    rw [e] at h
    exact h
  intro fuel
  induction fuel with
  | zero =>
    intro listed y w hf hsz hy hF hb hcl hun
    have hall : ∀ i, i < l.length → listed[i]? = some true := fun i hi => by
      have := left_zero listed.toList (by unfold left at hf; omega) i (by rw [Array.length_toList, hsz]; exact hi)
      simpa using this
    refine ⟨?_, fin listed y w hsz hy hF hb hall⟩
    apply List.eq_nil_iff_forall_not_mem.2
    intro j hj
    obtain ⟨h0, o, ho, _⟩ := mem_ready.1 hj
    have hjl : j < l.length := by
      have := (Array.getElem?_eq_some_iff.1 ho).1
      simpa using this
    rw [Array.getD_eq_getD_getElem?, hall j hjl] at h0
    cases h0
  | succ fuel ih =>
    intro listed y w hf hsz hy hF hb hcl hun
    refine ⟨fun hr => ?_, fun i hi => ?_⟩
    · refine fin listed y w hsz hy hF hb ?_
      intro i
      induction i using Nat.strongRecOn with
      | ind i ihi =>
        intro hi
        cases hli : listed[i]? with
        | none => rw [Array.getElem?_eq_none_iff] at hli; omega
        | some b =>
          cases b with
          | true => rfl
          | false =>
            exfalso
            have : i ∈ Region.ready .any l.toArray listed := by
              refine mem_ready.2 ⟨by rw [Array.getD_eq_getD_getElem?, hli]; rfl, l[i], by rw [List.getElem?_toArray, List.getElem?_eq_getElem hi], fun e he hbe => ?_⟩
              have h1 := hord i hi
              rw [List.getElem?_eq_getElem hi] at h1
              have h2 := List.all_eq_true.1 h1 e (by simpa using he)
              rw [hbe] at h2
              have h3 : e.on < i := by simpa using h2
              rw [Array.getD_eq_getD_getElem?, ihi e.on h3 (by omega)]
              rfl
            rw [hr] at this
            cases this
    · obtain ⟨h0, o, ho, hall⟩ := mem_ready.1 hi
      have ho' : l[i]? = some o := by simpa using ho
      have hil : i < l.length := (List.getElem?_eq_some_iff.1 ho').1
      have hli : listed[i]? = some false := by
        cases hli : listed[i]? with
        | none => rw [Array.getElem?_eq_none_iff] at hli; omega
        | some b => rw [Array.getD_eq_getD_getElem?, hli] at h0; rw [show b = false from h0]
      have hst := hsteps.get i o ho' (fun i => listed.getD i false) y w hb (by rw [Nat.zero_add]; show listed.getD i false = false; rw [Array.getD_eq_getD_getElem?, hli]; rfl) hy (fun j hj => by
        unfold preds at hj
        obtain ⟨e, he, rfl⟩ := List.mem_map.1 hj
        obtain ⟨he1, he2⟩ := List.mem_filter.1 he
        have hl := hall e (by simpa using he1) he2
        refine ⟨hl, hF e.on ?_⟩
        cases hle : listed[e.on]? with
        | none => rw [Array.getD_eq_getD_getElem?, hle] at hl; cases hl
        | some b => rw [Array.getD_eq_getD_getElem?, hle] at hl; rw [show b = true from hl]) hcl hun
      rw [Nat.zero_add] at hst
      obtain ⟨t, ht⟩ : ∃ t, dsts[i]? = some t := ⟨dsts[i]'(by omega), List.getElem?_eq_getElem (by omega)⟩
      have htd : dsts.getD i 0 = t := by rw [List.getD_eq_getElem?_getD, ht]; rfl
      have hfi := hfm i hil
      rw [ho', ht] at hfi
      simp only [Bool.and_eq_true, Bool.or_eq_true, decide_eq_true_eq] at hfi
      obtain ⟨hgd, hfi⟩ := hfi
      have after : ∀ u w', (R w w' ∧ (dsts.getD i 0 < x.length → F i u w') ∧ J (upd (fun i => listed.getD i false) i) (if dsts.getD i 0 = tg then u else y tg) w') → wpAny P .any l.toArray Q fuel (listed.setIfInBounds i true) (Act.put ⟨frameOf x.length y, d⟩ o.dst u) w' := by
        rintro u w' ⟨hR, hu, hJw⟩
        rw [htd] at hu
        have ea : (Act.put ⟨frameOf x.length y, d⟩ o.dst u) = ⟨frameOf x.length (fun s => if s = t then u else y s), d⟩ := by
          rcases hfi with ⟨h1, h2⟩ | ⟨h1, h2⟩
          · rw [h1]
            simp only [Act.put, frameOf_set]
          · have : o.dst = none := by simpa using h1
            rw [this]
            simp only [Act.put]
            congr 1
            apply Array.ext_getElem?
            intro s
            by_cases hs : s < x.length
            · rw [frameOf_get _ _ _ hs, frameOf_get _ _ _ hs, if_neg (by omega)]
            · rw [Array.getElem?_eq_none (by rw [frameOf_size]; omega), Array.getElem?_eq_none (by rw [frameOf_size]; omega)]
        rw [ea]
        have hlf := left_set listed.toList i (by simpa using hli)
        have hup : ∀ j, (listed.setIfInBounds i true).getD j false = if j = i then true else listed.getD j false := by
          intro j
          by_cases hji : j = i
          · subst hji
            rw [if_pos rfl, Array.getD_eq_getD_getElem?, Array.getElem?_setIfInBounds_self_of_lt (by omega)]; rfl
          · rw [if_neg hji, Array.getD_eq_getD_getElem?, Array.getD_eq_getD_getElem?, Array.getElem?_setIfInBounds_ne (Ne.symm hji)]
        refine ih _ _ _ ?_ (by rw [Array.size_setIfInBounds, hsz]) ?_ ?_ (hJ _ _ _ _ ?_ (by rw [htd] at hJw; show J _ (if tg = t then u else y tg) w'; by_cases e : t = tg; rw [if_pos e] at hJw; rw [if_pos e.symm]; exact hJw; rw [if_neg e] at hJw; rw [if_neg (Ne.symm e)]; exact hJw)) ?_ ?_
        · unfold left at hf ⊢
          rw [Array.toList_setIfInBounds]
          omega
        · intro s hs
          have hst : s ≠ t := fun e => hs (e ▸ List.mem_of_getElem? ht)
          simp only [hst, if_false]
          exact hy s hs
        · intro j hj hjt
          by_cases hji : j = i
          · subst hji
            rw [htd] at hjt ⊢
            simpa using hu hjt
          · rw [Array.getElem?_setIfInBounds_ne (Ne.symm hji)] at hj
            have hjl : j < dsts.length := by
              have := (Array.getElem?_eq_some_iff.1 hj).1
              omega
            have hne : dsts.getD j 0 ≠ t := by
              rw [List.getD_eq_getElem?_getD, List.getElem?_eq_getElem hjl]
              intro e
              have hit : dsts[i]'(by omega) = t := (List.getElem?_eq_some_iff.1 ht).2
              have := nodup_inj hnd j i hjl (by omega) (show dsts[j] = dsts[i]'(by omega) from by rw [hit]; simpa using e)
              exact hji this
            simp only [hne, if_false]
            exact hmono _ _ _ _ (hF j hj hjt) hR
        · intro j hj
          by_cases hji : j = i
          · subst hji
            rw [upd_same, Array.getD_eq_getD_getElem?, Array.getElem?_setIfInBounds_self_of_lt (by omega)]
            rfl
          · rw [upd_other _ hji, Array.getD_eq_getD_getElem?, Array.getD_eq_getD_getElem?, Array.getElem?_setIfInBounds_ne (Ne.symm hji)]
        · intro k q hk hLk j hj
          rw [hup] at hLk ⊢
          by_cases hji : j = i
          · rw [if_pos hji]
          · rw [if_neg hji]
            by_cases hki : k = i
            · subst hki
              rw [ho'] at hk
              injection hk with hk
              subst hk
              unfold preds at hj
              obtain ⟨e, he, rfl⟩ := List.mem_map.1 hj
              obtain ⟨he1, he2⟩ := List.mem_filter.1 he
              have hl := hall e (by simpa using he1) he2
              cases hle : listed[e.on]? with
              | none => rw [Array.getD_eq_getD_getElem?, hle] at hl; cases hl
              | some b => rw [Array.getD_eq_getD_getElem?, hle] at hl ⊢; exact hl
            · rw [if_neg hki] at hLk
              exact hcl k q hk hLk j hj
        · intro k hk hLk hkn
          rw [hup] at hLk
          by_cases hki : k = i
          · rw [if_pos hki] at hLk; cases hLk
          · rw [if_neg hki] at hLk
            have hne : dsts.getD k 0 ≠ t := by
              rw [List.getD_eq_getElem?_getD, List.getElem?_eq_getElem (by omega)]
              intro e
              have hit : dsts[i]'(by omega) = t := (List.getElem?_eq_some_iff.1 ht).2
              have := nodup_inj hnd k i (by omega) (by omega) (show dsts[k]'(by omega) = dsts[i]'(by omega) from by rw [hit]; simpa using e)
              exact hki this
            simp only [hne, if_false]
            exact hun k hk hLk hkn
      unfold wpOp
      rw [ho]
      simp only
      have hw : Region.wanted o (yielded l.toArray (frameOf x.length y)) = true := by
        have : o.guard = none := by simpa using hgd
        unfold Region.wanted; rw [this]
      rw [if_pos hw]
      exact .inl (hst _ _ after)

/-- The law, at a region that draws its order. -/
theorem wp_region_y {id : Nat} {l : List Oper} {x : List Value} {d : List Deferred} {w : World} (hm : P.follows .mixedOrders = true) (n : Nat) (hn : x.length = n) (dsts : List Nat) (R : World → World → Prop) (F : Nat → Value → World → Prop) (tg : Nat) (J : (Nat → Bool) → Value → World → Prop)
    (hmono : ∀ i u w w', F i u w → R w w' → F i u w') (hJ : ∀ L L' u w, (∀ i, i < l.length → L i = L' i) → J L u w → J L' u w)
    (hok : invOk l dsts n = true) (hst : J (fun _ => false) (x.getD tg undef) w.drew) (hsteps : StepsY P l tg J n x d dsts R F 0 l)
    (hend : ∀ (v : Nat → Value) (L : Nat → Bool) (w' : World), (∀ i, dsts.getD i 0 = tg → J L (v i) w') → (∀ i, i < l.length → L i = true) → (∀ i, i < l.length → dsts.getD i 0 < n → F i (v i) w') → Q .normal ⟨(putAll v 0 dsts x).toArray, d⟩ w') :
    (Code.region id l.toArray true).wp P Q ⟨x.toArray, d⟩ w := by
  subst hn
  refine wp_region_any hm ?_
  change wpAny P .any l.toArray Q _ _ _ w.drew
  rw [frameOf_list x]
  have hl : ∀ n, ((List.replicate n false).filter (!·)).length = n := fun n => by induction n with
    | zero => rfl
    | succ n ih => rw [List.replicate_succ]; simp
  refine wpAny_y dsts R F tg J hmono hJ hok hsteps hend _ _ _ _ ?_ (by simp) (fun t ht => rfl) ?_ (hJ _ _ _ _ ?_ hst) (fun k q hk hLk => ?_) (fun k hk _ _ => rfl)
  · unfold left
    rw [Array.toList_replicate, hl]
    exact Nat.le_refl _
  · intro i hi
    rw [Array.getElem?_replicate] at hi
    split at hi <;> cases hi
  · intro i hi
    rw [Array.getD_eq_getD_getElem?, Array.getElem?_replicate]
    split <;> rfl
  · rw [Array.getD_eq_getD_getElem?, Array.getElem?_replicate] at hLk
    split at hLk <;> cases hLk
end
/-- The word for 'x := T{..}' whose box is slot tg: made by operation i, stored whole by operation j. -/
def Jy (i j : Nat) (wd : World) (T : TypeId) (V : Array Value) (L : Nat → Bool) (u : Value) (w : World) : Prop :=
  Below wd.heap.size wd w ∧ (L i = true → ∃ g C, u = .pointer (some ⟨g, 0, none⟩) ∧ wd.heap.size ≤ g ∧ Blk w g C T ∧ C.size = V.size ∧ (L j = true → C = V))
theorem Jy.congr {i j m : Nat} {wd : World} {T : TypeId} {V : Array Value} (hi : i < m) (hj : j < m) : ∀ L L' u w, (∀ k, k < m → L k = L' k) → Jy i j wd T V L u w → Jy i j wd T V L' u w := by
  intro L L' u w h hJ
  unfold Jy at *
  rw [← h i hi, ← h j hj]; exact hJ
theorem Jy.pure {i j k : Nat} {wd w : World} {T : TypeId} {V : Array Value} {L : Nat → Bool} {u : Value} (h : Jy i j wd T V L u w) (hi : i ≠ k) (hj : j ≠ k) : Jy i j wd T V (upd L k) u w := by
  unfold Jy at *
  rw [upd_other _ hi, upd_other _ hj]; exact h
theorem Jy.start {i j : Nat} {wd : World} {T : TypeId} {V : Array Value} {u : Value} : Jy i j wd T V (fun _ => false) u wd := ⟨Below.refl _ _, fun h => by cases h⟩
theorem Jy.call {i j k : Nat} {wd w w' : World} {T : TypeId} {V : Array Value} {L : Nat → Bool} {u : Value} (h : Jy i j wd T V L u w) (hi : i ≠ k) (hj : j ≠ k) (hb : Below w.heap.size w w') : Jy i j wd T V (upd L k) u w' := by
  unfold Jy at *
  rw [upd_other _ hi, upd_other _ hj]
  refine ⟨h.1.trans (hb.mono h.1.size), fun hL => ?_⟩
  obtain ⟨g, C, e, hg, hbk, hs, hc⟩ := h.2 hL
  exact ⟨g, C, e, hg, hbk.later hb, hs, hc⟩
theorem Jy.first {i j : Nat} {wd w : World} {T : TypeId} {V C : Array Value} {L : Nat → Bool} {u : Value} (h : Jy i j wd T V L u w) (hij : j ≠ i) (hj : L j = false) (hs : C.size = V.size) : Jy i j wd T V (upd L i) (.pointer (some ⟨w.heap.size, 0, none⟩)) (w.alloc (.cells C T)) := by
  refine ⟨h.1.alloc h.1.size _, fun _ => ⟨_, C, rfl, h.1.size, Blk.new _ _ _, hs, fun e => ?_⟩⟩
  rw [upd_other _ hij, hj] at e
  cases e
theorem Jy.at {i j : Nat} {wd w : World} {T : TypeId} {V : Array Value} {L : Nat → Bool} {u : Value} (h : Jy i j wd T V L u w) (hi : L i = true) : ∃ g C, u = .pointer (some ⟨g, 0, none⟩) ∧ wd.heap.size ≤ g ∧ Blk w g C T ∧ C.size = V.size := by
  obtain ⟨g, C, e, hg, hb, hs, _⟩ := h.2 hi
  exact ⟨g, C, e, hg, hb, hs⟩
theorem Jy.second {i j g : Nat} {wd w w' : World} {T : TypeId} {V : Array Value} {L : Nat → Bool} {u : Value} (h : Jy i j wd T V L u w) (hu : u = .pointer (some ⟨g, 0, none⟩)) (hg : wd.heap.size ≤ g) (hV : Blk w' g V T) (hb : Below wd.heap.size w w') : Jy i j wd T V (upd L j) u w' :=
  ⟨h.1.trans hb, fun _ => ⟨g, V, hu, hg, hV, rfl, fun _ => rfl⟩⟩
theorem Jy.done {i j : Nat} {wd w : World} {T : TypeId} {V : Array Value} {L : Nat → Bool} {u : Value} (h : Jy i j wd T V L u w) (hi : L i = true) (hj : L j = true) : ∃ g, u = .pointer (some ⟨g, 0, none⟩) ∧ wd.heap.size ≤ g ∧ Blk w g V T ∧ Below wd.heap.size wd w := by
  obtain ⟨g, C, e, hg, hb, _, hc⟩ := h.2 hi
  obtain rfl := hc hj
  exact ⟨g, e, hg, hb, h.1⟩
end Go.Proofs.YtkhfmgifpppcmaaDoor
namespace Go.Proofs.YtkhfmgifpppcmaaDoor
open Go.RowKit
set_option linter.unusedVariables false

/-- What is to be shown of the operations from number i on: behind those that it waits for, an operation lays its own value, and keeps the word J. -/
def StepsA (P : Program) (ops : List Oper) (J : (Nat → Bool) → (Nat → Value) → World → Prop) (n : Nat) (x : List Value) (d : List Deferred) (dsts : List Nat) (R : World → World → Prop) (F : Nat → Value → World → Prop) : Nat → List Oper → Prop
  | _, [] => True
  | i, o :: l => (∀ (L : Nat → Bool) (y : Nat → Value) (w : World), J L y w → L i = false → (∀ t, t ∉ dsts → y t = x.getD t undef) → (∀ j, j ∈ preds o → L j = true ∧ (dsts.getD j 0 < n → F j (y (dsts.getD j 0)) w)) →
      (∀ k q, ops[k]? = some q → L k = true → ∀ j, j ∈ preds q → L j = true) → (∀ k, k < ops.length → L k = false → dsts.getD k 0 < n → y (dsts.getD k 0) = x.getD (dsts.getD k 0) undef) →
      StepFact P o ⟨frameOf n y, d⟩ w fun u w' => R w w' ∧ (dsts.getD i 0 < n → F i u w') ∧ J (upd L i) (fun s => if s = dsts.getD i 0 then u else y s) w') ∧ StepsA P ops J n x d dsts R F (i + 1) l
theorem StepsA.get {P : Program} {ops : List Oper} {J : (Nat → Bool) → (Nat → Value) → World → Prop} {n : Nat} {x : List Value} {d : List Deferred} {dsts : List Nat} {R : World → World → Prop} {F : Nat → Value → World → Prop} :
    ∀ {l : List Oper} {k : Nat}, StepsA P ops J n x d dsts R F k l → ∀ i o, l[i]? = some o →
      ∀ (L : Nat → Bool) (y : Nat → Value) (w : World), J L y w → L (k + i) = false → (∀ t, t ∉ dsts → y t = x.getD t undef) → (∀ j, j ∈ preds o → L j = true ∧ (dsts.getD j 0 < n → F j (y (dsts.getD j 0)) w)) →
        (∀ k q, ops[k]? = some q → L k = true → ∀ j, j ∈ preds q → L j = true) → (∀ k, k < ops.length → L k = false → dsts.getD k 0 < n → y (dsts.getD k 0) = x.getD (dsts.getD k 0) undef) →
        StepFact P o ⟨frameOf n y, d⟩ w fun u w' => R w w' ∧ (dsts.getD (k + i) 0 < n → F (k + i) u w') ∧ J (upd L (k + i)) (fun s => if s = dsts.getD (k + i) 0 then u else y s) w'
  | [], _, _, _, _, h => by simp at h
  | o :: l, k, hs, 0, o', h => by
    simp only [List.getElem?_cons_zero, Option.some.injEq] at h
    subst h
    exact hs.1
  | o :: l, k, hs, i + 1, o', h => by
    rw [List.getElem?_cons_succ] at h
    have := hs.2.get i o' h
    rwa [show k + 1 + i = k + (i + 1) from by omega] at this

section
variable {P : Program} {Q : Exit → Act → World → Prop}
theorem wpAny_a {l : List Oper} {x : List Value} {d : List Deferred} (dsts : List Nat) (R : World → World → Prop) (F : Nat → Value → World → Prop) (J : (Nat → Bool) → (Nat → Value) → World → Prop)
    (hmono : ∀ i u w w', F i u w → R w w' → F i u w') (hJ : ∀ L L' y w, (∀ i, i < l.length → L i = L' i) → J L y w → J L' y w)
    (hok : invOk l dsts x.length = true) (hsteps : StepsA P l J x.length x d dsts R F 0 l)
    (hend : ∀ (y : Nat → Value) (L : Nat → Bool) (w : World), J L y w → (∀ i, i < l.length → L i = true) → (∀ i, i < l.length → dsts.getD i 0 < x.length → F i (y (dsts.getD i 0)) w) → (∀ t, t ∉ dsts → y t = x.getD t undef) → Q .normal ⟨frameOf x.length y, d⟩ w) :
    ∀ (fuel : Nat) (listed : Array Bool) (y : Nat → Value) (w : World), left listed ≤ fuel → listed.size = l.length → (∀ t, t ∉ dsts → y t = x.getD t undef) →
      (∀ i, listed[i]? = some true → dsts.getD i 0 < x.length → F i (y (dsts.getD i 0)) w) → J (fun i => listed.getD i false) y w →
      (∀ k q, l[k]? = some q → listed.getD k false = true → ∀ j, j ∈ preds q → listed.getD j false = true) → (∀ k, k < l.length → listed.getD k false = false → dsts.getD k 0 < x.length → y (dsts.getD k 0) = x.getD (dsts.getD k 0) undef) → wpAny P .any l.toArray Q fuel listed ⟨frameOf x.length y, d⟩ w := by
  simp only [invOk, Bool.and_eq_true, decide_eq_true_eq, List.all_eq_true, List.mem_range] at hok
  obtain ⟨⟨⟨hdl, hnd⟩, hfm⟩, hord⟩ := hok
  have fin : ∀ (listed : Array Bool) (y : Nat → Value) (w : World), listed.size = l.length → (∀ t, t ∉ dsts → y t = x.getD t undef) →
      (∀ i, listed[i]? = some true → dsts.getD i 0 < x.length → F i (y (dsts.getD i 0)) w) → J (fun i => listed.getD i false) y w → (∀ i, i < l.length → listed[i]? = some true) → Q .normal ⟨frameOf x.length y, d⟩ w := by
    intro listed y w hsz hy hF hb hall
    exact hend y _ w hb (fun i hi => by rw [Array.getD_eq_getD_getElem?, hall i hi]; rfl) (fun i hi hn => hF i (hall i hi) hn) hy
  intro fuel
  induction fuel with
  | zero =>
    intro listed y w hf hsz hy hF hb hcl hun
    have hall : ∀ i, i < l.length → listed[i]? = some true := fun i hi => by
      have := left_zero listed.toList (by unfold left at hf; omega) i (by rw [Array.length_toList, hsz]; exact hi)
      simpa using this
    refine ⟨?_, fin listed y w hsz hy hF hb hall⟩
    apply List.eq_nil_iff_forall_not_mem.2
    intro j hj
    obtain ⟨h0, o, ho, _⟩ := mem_ready.1 hj
    have hjl : j < l.length := by
      have := (Array.getElem?_eq_some_iff.1 ho).1
      simpa using this
    rw [Array.getD_eq_getD_getElem?, hall j hjl] at h0
    cases h0
  | succ fuel ih =>
    intro listed y w hf hsz hy hF hb hcl hun
    refine ⟨fun hr => ?_, fun i hi => ?_⟩
    · refine fin listed y w hsz hy hF hb ?_
      intro i
      induction i using Nat.strongRecOn with
      | ind i ihi =>
        intro hi
        cases hli : listed[i]? with
        | none => rw [Array.getElem?_eq_none_iff] at hli; omega
        | some b =>
          cases b with
          | true => rfl
          | false =>
            exfalso
            have : i ∈ Region.ready .any l.toArray listed := by
              refine mem_ready.2 ⟨by rw [Array.getD_eq_getD_getElem?, hli]; rfl, l[i], by rw [List.getElem?_toArray, List.getElem?_eq_getElem hi], fun e he hbe => ?_⟩
              have h1 := hord i hi
              rw [List.getElem?_eq_getElem hi] at h1
              have h2 := List.all_eq_true.1 h1 e (by simpa using he)
              rw [hbe] at h2
              have h3 : e.on < i := by simpa using h2
              rw [Array.getD_eq_getD_getElem?, ihi e.on h3 (by omega)]
              rfl
            rw [hr] at this
            cases this
    · obtain ⟨h0, o, ho, hall⟩ := mem_ready.1 hi
      have ho' : l[i]? = some o := by simpa using ho
      have hil : i < l.length := (List.getElem?_eq_some_iff.1 ho').1
      have hli : listed[i]? = some false := by
        cases hli : listed[i]? with
        | none => rw [Array.getElem?_eq_none_iff] at hli; omega
        | some b => rw [Array.getD_eq_getD_getElem?, hli] at h0; rw [show b = false from h0]
      have hst := hsteps.get i o ho' (fun i => listed.getD i false) y w hb (by rw [Nat.zero_add]; show listed.getD i false = false; rw [Array.getD_eq_getD_getElem?, hli]; rfl) hy (fun j hj => by
        unfold preds at hj
        obtain ⟨e, he, rfl⟩ := List.mem_map.1 hj
        obtain ⟨he1, he2⟩ := List.mem_filter.1 he
        have hl := hall e (by simpa using he1) he2
        refine ⟨hl, hF e.on ?_⟩
        cases hle : listed[e.on]? with
        | none => rw [Array.getD_eq_getD_getElem?, hle] at hl; cases hl
        | some b => rw [Array.getD_eq_getD_getElem?, hle] at hl; rw [show b = true from hl]) hcl hun
      rw [Nat.zero_add] at hst
      obtain ⟨t, ht⟩ : ∃ t, dsts[i]? = some t := ⟨dsts[i]'(by omega), List.getElem?_eq_getElem (by omega)⟩
      have htd : dsts.getD i 0 = t := by rw [List.getD_eq_getElem?_getD, ht]; rfl
      have hfi := hfm i hil
      rw [ho', ht] at hfi
      simp only [Bool.and_eq_true, Bool.or_eq_true, decide_eq_true_eq] at hfi
      obtain ⟨hgd, hfi⟩ := hfi
      have after : ∀ u w', (R w w' ∧ (dsts.getD i 0 < x.length → F i u w') ∧ J (upd (fun i => listed.getD i false) i) (fun s => if s = dsts.getD i 0 then u else y s) w') → wpAny P .any l.toArray Q fuel (listed.setIfInBounds i true) (Act.put ⟨frameOf x.length y, d⟩ o.dst u) w' := by
        rintro u w' ⟨hR, hu, hJw⟩
        rw [htd] at hu
        have ea : (Act.put ⟨frameOf x.length y, d⟩ o.dst u) = ⟨frameOf x.length (fun s => if s = t then u else y s), d⟩ := by
          rcases hfi with ⟨h1, h2⟩ | ⟨h1, h2⟩
          · rw [h1]
            simp only [Act.put, frameOf_set]
          · have : o.dst = none := by simpa using h1
            rw [this]
            simp only [Act.put]
            congr 1
            apply Array.ext_getElem?
            intro s
            by_cases hs : s < x.length
            · rw [frameOf_get _ _ _ hs, frameOf_get _ _ _ hs, if_neg (by omega)]
            · rw [Array.getElem?_eq_none (by rw [frameOf_size]; omega), Array.getElem?_eq_none (by rw [frameOf_size]; omega)]
        rw [ea]
        have hlf := left_set listed.toList i (by simpa using hli)
        have hup : ∀ j, (listed.setIfInBounds i true).getD j false = if j = i then true else listed.getD j false := by
          intro j
          by_cases hji : j = i
          · subst hji
            rw [if_pos rfl, Array.getD_eq_getD_getElem?, Array.getElem?_setIfInBounds_self_of_lt (by omega)]; rfl
          · rw [if_neg hji, Array.getD_eq_getD_getElem?, Array.getD_eq_getD_getElem?, Array.getElem?_setIfInBounds_ne (Ne.symm hji)]
        refine ih _ _ _ ?_ (by rw [Array.size_setIfInBounds, hsz]) ?_ ?_ (hJ _ _ _ _ ?_ (by rw [htd] at hJw; exact hJw)) ?_ ?_
        · unfold left at hf ⊢
          rw [Array.toList_setIfInBounds]
          omega
        · intro s hs
          have hst : s ≠ t := fun e => hs (e ▸ List.mem_of_getElem? ht)
          simp only [hst, if_false]
          exact hy s hs
        · intro j hj hjt
          by_cases hji : j = i
          · subst hji
            rw [htd] at hjt ⊢
            simpa using hu hjt
          · rw [Array.getElem?_setIfInBounds_ne (Ne.symm hji)] at hj
            have hjl : j < dsts.length := by
              have := (Array.getElem?_eq_some_iff.1 hj).1
              omega
            have hne : dsts.getD j 0 ≠ t := by
              rw [List.getD_eq_getElem?_getD, List.getElem?_eq_getElem hjl]
              intro e
              have hit : dsts[i]'(by omega) = t := (List.getElem?_eq_some_iff.1 ht).2
              have := nodup_inj hnd j i hjl (by omega) (show dsts[j] = dsts[i]'(by omega) from by rw [hit]; simpa using e)
              exact hji this
            simp only [hne, if_false]
            exact hmono _ _ _ _ (hF j hj hjt) hR
        · intro j hj
          by_cases hji : j = i
          · subst hji
            rw [upd_same, Array.getD_eq_getD_getElem?, Array.getElem?_setIfInBounds_self_of_lt (by omega)]
            rfl
          · rw [upd_other _ hji, Array.getD_eq_getD_getElem?, Array.getD_eq_getD_getElem?, Array.getElem?_setIfInBounds_ne (Ne.symm hji)]
        · intro k q hk hLk j hj
          rw [hup] at hLk ⊢
          by_cases hji : j = i
          · rw [if_pos hji]
          · rw [if_neg hji]
            by_cases hki : k = i
            · subst hki
              rw [ho'] at hk
              injection hk with hk
              subst hk
              unfold preds at hj
              obtain ⟨e, he, rfl⟩ := List.mem_map.1 hj
              obtain ⟨he1, he2⟩ := List.mem_filter.1 he
              have hl := hall e (by simpa using he1) he2
              cases hle : listed[e.on]? with
              | none => rw [Array.getD_eq_getD_getElem?, hle] at hl; cases hl
              | some b => rw [Array.getD_eq_getD_getElem?, hle] at hl ⊢; exact hl
            · rw [if_neg hki] at hLk
              exact hcl k q hk hLk j hj
        · intro k hk hLk hkn
          rw [hup] at hLk
          by_cases hki : k = i
          · rw [if_pos hki] at hLk; cases hLk
          · rw [if_neg hki] at hLk
            have hne : dsts.getD k 0 ≠ t := by
              rw [List.getD_eq_getElem?_getD, List.getElem?_eq_getElem (by omega)]
              intro e
              have hit : dsts[i]'(by omega) = t := (List.getElem?_eq_some_iff.1 ht).2
              have := nodup_inj hnd k i (by omega) (by omega) (show dsts[k]'(by omega) = dsts[i]'(by omega) from by rw [hit]; simpa using e)
              exact hki this
            simp only [hne, if_false]
            exact hun k hk hLk hkn
      unfold wpOp
      rw [ho]
      simp only
      have hw : Region.wanted o (yielded l.toArray (frameOf x.length y)) = true := by
        have : o.guard = none := by simpa using hgd
        unfold Region.wanted; rw [this]
      rw [if_pos hw]
      exact .inl (hst _ _ after)

/-- The law, at a region that draws its order. -/
theorem wp_region_a {id : Nat} {l : List Oper} {x : List Value} {d : List Deferred} {w : World} (hm : P.follows .mixedOrders = true) (n : Nat) (hn : x.length = n) (dsts : List Nat) (R : World → World → Prop) (F : Nat → Value → World → Prop) (J : (Nat → Bool) → (Nat → Value) → World → Prop)
    (hmono : ∀ i u w w', F i u w → R w w' → F i u w') (hJ : ∀ L L' y w, (∀ i, i < l.length → L i = L' i) → J L y w → J L' y w)
    (hok : invOk l dsts n = true) (hst : J (fun _ => false) (fun t => x.getD t undef) w.drew) (hsteps : StepsA P l J n x d dsts R F 0 l)
    (hend : ∀ (y : Nat → Value) (L : Nat → Bool) (w' : World), J L y w' → (∀ i, i < l.length → L i = true) → (∀ i, i < l.length → dsts.getD i 0 < n → F i (y (dsts.getD i 0)) w') → (∀ t, t ∉ dsts → y t = x.getD t undef) → Q .normal ⟨frameOf n y, d⟩ w') :
    (Code.region id l.toArray true).wp P Q ⟨x.toArray, d⟩ w := by
  subst hn
  refine wp_region_any hm ?_
  change wpAny P .any l.toArray Q _ _ _ w.drew
  rw [frameOf_list x]
  have hl : ∀ n, ((List.replicate n false).filter (!·)).length = n := fun n => by induction n with
    | zero => rfl
    | succ n ih => rw [List.replicate_succ]; simp
  refine wpAny_a dsts R F J hmono hJ hok hsteps hend _ _ _ _ ?_ (by simp) (fun t ht => rfl) ?_ (hJ _ _ _ _ ?_ hst) (fun k q hk hLk => ?_) (fun k hk _ _ => rfl)
  · unfold left
    rw [Array.toList_replicate, hl]
    exact Nat.le_refl _
  · intro i hi
    rw [Array.getElem?_replicate] at hi
    split at hi <;> cases hi
  · intro i hi
    rw [Array.getD_eq_getD_getElem?, Array.getElem?_replicate]
    split <;> rfl
  · rw [Array.getD_eq_getD_getElem?, Array.getElem?_replicate] at hLk
    split at hLk <;> cases hLk
end
/-- The law, on a frame of which little is known. -/
theorem wp_region_f {P : Program} {Q : Exit → Act → World → Prop} {id : Nat} {l : List Oper} {x : Nat → Value} {d : List Deferred} {w : World} (hm : P.follows .mixedOrders = true) (n : Nat) (dsts : List Nat) (F : Nat → Value → World → Prop) (J : (Nat → Bool) → (Nat → Value) → World → Prop)
    (hmono : ∀ i u w w', F i u w → F i u w') (hJ : ∀ L L' y w, (∀ i, i < l.length → L i = L' i) → J L y w → J L' y w)
    (hok : invOk l dsts n = true) (hst : ∀ y, (∀ t, t < n → y t = x t) → J (fun _ => false) y w.drew)
    (hsteps : StepsA P l J n ((List.range n).map x) d dsts (fun _ _ => True) F 0 l)
    (hend : ∀ (y : Nat → Value) (L : Nat → Bool) (w' : World), J L y w' → (∀ i, i < l.length → L i = true) → (∀ i, i < l.length → dsts.getD i 0 < n → F i (y (dsts.getD i 0)) w') → (∀ t, t < n → t ∉ dsts → y t = x t) → Q .normal ⟨frameOf n y, d⟩ w') :
    (Code.region id l.toArray true).wp P Q ⟨frameOf n x, d⟩ w := by
  have e : frameOf n x = ((List.range n).map x).toArray := rfl
  have hg : ∀ t, t < n → ((List.range n).map x).getD t undef = x t := fun t ht => by
    rw [List.getD_eq_getElem?_getD, List.getElem?_map, List.getElem?_range ht]; rfl
  rw [e]
  exact wp_region_a hm n (by simp) dsts _ F J (fun i u w w' h _ => hmono i u w w' h) hJ hok (hst _ hg) hsteps (fun y L w' h1 h2 h3 h4 => hend y L w' h1 h2 h3 (fun t ht hn => (h4 t hn).trans (hg t ht)))
theorem StepsY.toA {P : Program} {ops : List Oper} {tg : Nat} {J : (Nat → Bool) → Value → World → Prop} {n : Nat} {x : List Value} {d : List Deferred} {dsts : List Nat} {R : World → World → Prop} {F : Nat → Value → World → Prop} :
    ∀ {l : List Oper} {i : Nat}, StepsY P ops tg J n x d dsts R F i l → StepsA P ops (fun L y w => J L (y tg) w) n x d dsts R F i l
  | [], _, _ => trivial
  | o :: l, i, h => by
    refine ⟨fun L y w h1 h2 h3 h4 h5 h6 => ?_, StepsY.toA h.2⟩
    intro K Q hK
    refine h.1 L y w h1 h2 h3 h4 h5 h6 K Q (fun u w' hp => hK u w' ⟨hp.1, hp.2.1, ?_⟩)
    have h7 := hp.2.2
    show J (upd L i) (if tg = dsts.getD i 0 then u else y tg) w'
    by_cases e : dsts.getD i 0 = tg
    · rw [if_pos e] at h7; rw [if_pos e.symm]; exact h7
    · rw [if_neg e] at h7; rw [if_neg (fun q => e q.symm)]; exact h7
/-- The law of FWordY, with the frame behind it as one of which little is known. -/
theorem wp_region_yf {P : Program} {Q : Exit → Act → World → Prop} {id : Nat} {l : List Oper} {x : List Value} {d : List Deferred} {w : World} (hm : P.follows .mixedOrders = true) (n : Nat) (hn : x.length = n) (dsts : List Nat) (R : World → World → Prop) (F : Nat → Value → World → Prop) (tg : Nat) (J : (Nat → Bool) → Value → World → Prop)
    (hmono : ∀ i u w w', F i u w → R w w' → F i u w') (hJ : ∀ L L' u w, (∀ i, i < l.length → L i = L' i) → J L u w → J L' u w)
    (hok : invOk l dsts n = true) (hst : J (fun _ => false) (x.getD tg undef) w.drew) (hsteps : StepsY P l tg J n x d dsts R F 0 l)
    (hend : ∀ (y : Nat → Value) (L : Nat → Bool) (w' : World), J L (y tg) w' → (∀ i, i < l.length → L i = true) → (∀ i, i < l.length → dsts.getD i 0 < n → F i (y (dsts.getD i 0)) w') → (∀ t, t ∉ dsts → y t = x.getD t undef) → Q .normal ⟨frameOf n y, d⟩ w') :
    (Code.region id l.toArray true).wp P Q ⟨x.toArray, d⟩ w :=
  wp_region_a hm n hn dsts R F (fun L y w => J L (y tg) w) hmono (fun L L' y w h => hJ L L' (y tg) w h) hok hst hsteps.toA hend
/-- A word that looks at the operations S and the slots T alone. -/
def JA (S T : List Nat) (P : (Nat → Bool) → (Nat → Value) → World → Prop) (L : Nat → Bool) (y : Nat → Value) (w : World) : Prop :=
  ∀ L' y', (∀ i ∈ S, L' i = L i) → (∀ t ∈ T, y' t = y t) → P L' y' w
theorem JA.out {S T : List Nat} {P : (Nat → Bool) → (Nat → Value) → World → Prop} {L : Nat → Bool} {y : Nat → Value} {w : World} (h : JA S T P L y w) : P L y w := h L y (fun _ _ => rfl) (fun _ _ => rfl)
theorem JA.congr {S T : List Nat} {P : (Nat → Bool) → (Nat → Value) → World → Prop} {m : Nat} (hS : ∀ i ∈ S, i < m) : ∀ L L' y w, (∀ i, i < m → L i = L' i) → JA S T P L y w → JA S T P L' y w :=
  fun L L' y w h hJ L'' y'' h1 h2 => hJ L'' y'' (fun i hi => (h1 i hi).trans (h i (hS i hi)).symm) h2
theorem JA.pure {S T : List Nat} {P : (Nat → Bool) → (Nat → Value) → World → Prop} {L : Nat → Bool} {y : Nat → Value} {w : World} {i t : Nat} {u : Value} (h : JA S T P L y w) (hi : i ∉ S) (ht : t ∉ T) : JA S T P (upd L i) (fun s => if s = t then u else y s) w :=
  fun L' y' h1 h2 => h L' y' (fun j hj => (h1 j hj).trans (upd_other _ (fun (e : j = i) => hi (by rw [← e]; exact hj)))) (fun s hs => (h2 s hs).trans (if_neg (fun (e : s = t) => ht (by rw [← e]; exact hs))))
theorem JA.step {S T : List Nat} {P : (Nat → Bool) → (Nat → Value) → World → Prop} {L : Nat → Bool} {y : Nat → Value} {w' : World} {i t : Nat} {u : Value}
    (h : ∀ L' y', (∀ j ∈ S, j ≠ i → L' j = L j) → (i ∈ S → L' i = true) → (∀ s ∈ T, s ≠ t → y' s = y s) → (t ∈ T → y' t = u) → P L' y' w') : JA S T P (upd L i) (fun s => if s = t then u else y s) w' :=
  fun L' y' h1 h2 => h L' y' (fun j hj e => (h1 j hj).trans (upd_other _ e)) (fun hi => (h1 i hi).trans (upd_same _ _)) (fun s hs e => (h2 s hs).trans (if_neg e)) (fun ht => (h2 t ht).trans (if_pos rfl))
theorem JA.of {S T : List Nat} {P : (Nat → Bool) → (Nat → Value) → World → Prop} {L : Nat → Bool} {y : Nat → Value} {w : World} (h : ∀ L' y', (∀ i ∈ S, L' i = L i) → (∀ t ∈ T, y' t = y t) → P L' y' w) : JA S T P L y w := h
end Go.Proofs.YtkhfmgifpppcmaaDoor
