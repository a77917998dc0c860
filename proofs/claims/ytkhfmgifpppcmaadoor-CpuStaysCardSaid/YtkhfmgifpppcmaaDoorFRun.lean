/-
  What is proved here: a law for a region that draws its order, some of whose operations write no slot (a map's literal): every slot's value is known, and a word on the world and on what has come up is kept by each operation. · a law for a region that draws its order, all of whose slots' values are known, and whose world is known by a word J on what has come up (a literal, a row that grows): with what has not come up still as it was, and what has come up behind all that it waits for. · words for the facts of a region that draws its order (wp_region_facts), by tools/region.py: values that are known, slices of bytes, and that they stay under what only adds memory.
  Conditions: as they say.
-/
import Derived.Test.YtkhfmgifpppcmaaDoorFacts
namespace Go.Proofs.YtkhfmgifpppcmaaDoor
open Go.RowKit
set_option linter.unusedVariables false

/-- The region's form: whose slots, all apart (an operation without a slot has a number beyond the frame), each operation waits for earlier ones alone. -/
def invOk (l : List Oper) (dsts : List Nat) (n : Nat) : Bool :=
  decide (l.length = dsts.length) && decide dsts.Nodup &&
  ((List.range l.length).all fun i => match l[i]?, dsts[i]? with
    | some o, some t => o.guard.isNone && ((decide (o.dst = some t) && decide (t < n)) || (o.dst.isNone && decide (n ≤ t)))
    | _, _ => false) &&
  (List.range l.length).all fun i => match l[i]? with
    | some o => o.after.toList.all fun e => !Region.binds .any e || decide (e.on < i)
    | none => true
def upd (L : Nat → Bool) (i : Nat) : Nat → Bool := fun j => if j = i then true else L j
theorem upd_same (L : Nat → Bool) (i : Nat) : upd L i i = true := by simp [upd]
theorem upd_other (L : Nat → Bool) {i j : Nat} (h : j ≠ i) : upd L i j = L j := by simp [upd, h]

theorem putAll_get' (v : Nat → Value) : ∀ (ts : List Nat) (i : Nat) (x : List Value), ts.Nodup →
    (putAll v i ts x).length = x.length ∧ (∀ j t, ts[j]? = some t → t < x.length → (putAll v i ts x)[t]? = some (v (i + j))) ∧ ∀ t, t ∉ ts → (putAll v i ts x)[t]? = x[t]?
  | [], i, x, _ => ⟨rfl, fun j t h => by simp at h, fun t _ => rfl⟩
  | s :: ts, i, x, hn => by
    have hn' := List.nodup_cons.1 hn
    obtain ⟨h1, h2, h3⟩ := putAll_get' v ts (i + 1) (x.set s (v i)) hn'.2
    refine ⟨by rw [putAll, h1, List.length_set], fun j t hj ht => ?_, fun t ht => ?_⟩
    · cases j with
      | zero =>
        simp only [List.getElem?_cons_zero, Option.some.injEq] at hj
        subst hj
        rw [putAll, h3 s hn'.1, List.getElem?_set_self ht, Nat.add_zero]
      | succ j =>
        rw [List.getElem?_cons_succ] at hj
        rw [putAll, h2 j t hj (by rw [List.length_set]; exact ht), show i + 1 + j = i + (j + 1) from by omega]
    · rw [putAll, h3 t (fun h => ht (by simp [h])), List.getElem?_set_ne (fun e => ht (by simp [e]))]

/-- What is to be shown of the operations from number i on: behind those that it waits for, an operation lays its own value, and keeps the word J. -/
def StepsInv (P : Program) (J : (Nat → Bool) → World → Prop) (n : Nat) (x : List Value) (d : List Deferred) (dsts : List Nat) (vs : List Value) : Nat → List Oper → Prop
  | _, [] => True
  | i, o :: l => (∀ (L : Nat → Bool) (y : Nat → Value) (w : World), J L w → L i = false → (∀ t, t ∉ dsts → y t = x.getD t undef) → (∀ j, j ∈ preds o → L j = true ∧ (dsts.getD j 0 < n → y (dsts.getD j 0) = vs.getD j undef)) →
      StepFact P o ⟨frameOf n y, d⟩ w fun u w' => (dsts.getD i 0 < n → u = vs.getD i undef) ∧ J (upd L i) w') ∧ StepsInv P J n x d dsts vs (i + 1) l
theorem StepsInv.get {P : Program} {J : (Nat → Bool) → World → Prop} {n : Nat} {x : List Value} {d : List Deferred} {dsts : List Nat} {vs : List Value} :
    ∀ {l : List Oper} {k : Nat}, StepsInv P J n x d dsts vs k l → ∀ i o, l[i]? = some o →
      ∀ (L : Nat → Bool) (y : Nat → Value) (w : World), J L w → L (k + i) = false → (∀ t, t ∉ dsts → y t = x.getD t undef) → (∀ j, j ∈ preds o → L j = true ∧ (dsts.getD j 0 < n → y (dsts.getD j 0) = vs.getD j undef)) →
        StepFact P o ⟨frameOf n y, d⟩ w fun u w' => (dsts.getD (k + i) 0 < n → u = vs.getD (k + i) undef) ∧ J (upd L (k + i)) w'
  | [], _, _, _, _, h => by simp at h
  | o :: l, k, hs, 0, o', h => by
    simp only [List.getElem?_cons_zero, Option.some.injEq] at h
    subst h
    exact hs.1
  | o :: l, k, hs, i + 1, o', h => by
    rw [List.getElem?_cons_succ] at h
    have := hs.2.get i o' h
    rwa [show k + 1 + i = k + (i + 1) from by omega] at this

section
variable {P : Program} {Q : Exit → Act → World → Prop}
theorem wpAny_inv {l : List Oper} {x : List Value} {d : List Deferred} (dsts : List Nat) (vs : List Value) (J : (Nat → Bool) → World → Prop)
    (hJ : ∀ L L' w, (∀ i, i < l.length → L i = L' i) → J L w → J L' w)
    (hok : invOk l dsts x.length = true) (hsteps : StepsInv P J x.length x d dsts vs 0 l)
    (hend : ∀ (L : Nat → Bool) (w : World), J L w → (∀ i, i < l.length → L i = true) → Q .normal ⟨(putAll (fun i => vs.getD i undef) 0 dsts x).toArray, d⟩ w) :
    ∀ (fuel : Nat) (listed : Array Bool) (y : Nat → Value) (w : World), left listed ≤ fuel → listed.size = l.length → (∀ t, t ∉ dsts → y t = x.getD t undef) →
      (∀ i, listed[i]? = some true → dsts.getD i 0 < x.length → y (dsts.getD i 0) = vs.getD i undef) → J (fun i => listed.getD i false) w → wpAny P .any l.toArray Q fuel listed ⟨frameOf x.length y, d⟩ w := by
  simp only [invOk, Bool.and_eq_true, decide_eq_true_eq, List.all_eq_true, List.mem_range] at hok
  obtain ⟨⟨⟨hdl, hnd⟩, hfm⟩, hord⟩ := hok
  have fin : ∀ (listed : Array Bool) (y : Nat → Value) (w : World), listed.size = l.length → (∀ t, t ∉ dsts → y t = x.getD t undef) →
      (∀ i, listed[i]? = some true → dsts.getD i 0 < x.length → y (dsts.getD i 0) = vs.getD i undef) → J (fun i => listed.getD i false) w → (∀ i, i < l.length → listed[i]? = some true) → Q .normal ⟨frameOf x.length y, d⟩ w := by
    intro listed y w hsz hy hF hb hall
    have h := hend _ w hb (fun i hi => by rw [Array.getD_eq_getD_getElem?, hall i hi]; rfl)
    have e : (putAll (fun i => vs.getD i undef) 0 dsts x).toArray = frameOf x.length y := by
      obtain ⟨h1, h2, h3⟩ := putAll_get' (fun i => vs.getD i undef) dsts 0 x hnd
      apply Array.ext_getElem?
      intro t
      rw [List.getElem?_toArray]
      by_cases ht : t < x.length
      · rw [frameOf_get _ _ _ ht]
        by_cases hm : t ∈ dsts
        · obtain ⟨j, hj, hjt⟩ := List.getElem_of_mem hm
          have hj' : dsts[j]? = some t := by rw [List.getElem?_eq_getElem hj, hjt]
          have hjd : dsts.getD j 0 = t := by rw [List.getD_eq_getElem?_getD, hj']; rfl
          rw [h2 j t hj' ht, Nat.zero_add]
          have := hF j (hall j (by omega)) (by rw [hjd]; exact ht)
          rw [hjd] at this
          rw [this]
        · rw [h3 t hm, hy t hm, List.getD_eq_getElem?_getD, List.getElem?_eq_getElem ht]
          rfl
      · rw [List.getElem?_eq_none (by omega), Array.getElem?_eq_none (by rw [frameOf_size]; omega)]
    rw [e] at h
    exact h
  intro fuel
  induction fuel with
  | zero =>
    intro listed y w hf hsz hy hF hb
    have hall : ∀ i, i < l.length → listed[i]? = some true := fun i hi => by
      have := left_zero listed.toList (by unfold left at hf; omega) i (by rw [Array.length_toList, hsz]; exact hi)
      simpa using this
    refine ⟨?_, fin listed y w hsz hy hF hb hall⟩
    apply List.eq_nil_iff_forall_not_mem.2
    intro j hj
    obtain ⟨h0, o, ho, _⟩ := mem_ready.1 hj
    have hjl : j < l.length := by
      have := (Array.getElem?_eq_some_iff.1 ho).1
      simpa using this
    rw [Array.getD_eq_getD_getElem?, hall j hjl] at h0
    cases h0
  | succ fuel ih =>
    intro listed y w hf hsz hy hF hb
    refine ⟨fun hr => ?_, fun i hi => ?_⟩
    · refine fin listed y w hsz hy hF hb ?_
      intro i
      induction i using Nat.strongRecOn with
      | ind i ihi =>
        intro hi
        cases hli : listed[i]? with
        | none => rw [Array.getElem?_eq_none_iff] at hli; omega
        | some b =>
          cases b with
          | true => rfl
          | false =>
            exfalso
            have : i ∈ Region.ready .any l.toArray listed := by
              refine mem_ready.2 ⟨by rw [Array.getD_eq_getD_getElem?, hli]; rfl, l[i], by rw [List.getElem?_toArray, List.getElem?_eq_getElem hi], fun e he hbe => ?_⟩
              have h1 := hord i hi
              rw [List.getElem?_eq_getElem hi] at h1
              have h2 := List.all_eq_true.1 h1 e (by simpa using he)
              rw [hbe] at h2
              have h3 : e.on < i := by simpa using h2
              rw [Array.getD_eq_getD_getElem?, ihi e.on h3 (by omega)]
              rfl
            rw [hr] at this
            cases this
    · obtain ⟨h0, o, ho, hall⟩ := mem_ready.1 hi
      have ho' : l[i]? = some o := by simpa using ho
      have hil : i < l.length := (List.getElem?_eq_some_iff.1 ho').1
      have hli : listed[i]? = some false := by
        cases hli : listed[i]? with
        | none => rw [Array.getElem?_eq_none_iff] at hli; omega
        | some b => rw [Array.getD_eq_getD_getElem?, hli] at h0; rw [show b = false from h0]
      have hst := hsteps.get i o ho' (fun i => listed.getD i false) y w hb (by rw [Nat.zero_add]; show listed.getD i false = false; rw [Array.getD_eq_getD_getElem?, hli]; rfl) hy (fun j hj => by
        unfold preds at hj
        obtain ⟨e, he, rfl⟩ := List.mem_map.1 hj
        obtain ⟨he1, he2⟩ := List.mem_filter.1 he
        have hl := hall e (by simpa using he1) he2
        refine ⟨hl, hF e.on ?_⟩
        cases hle : listed[e.on]? with
        | none => rw [Array.getD_eq_getD_getElem?, hle] at hl; cases hl
        | some b => rw [Array.getD_eq_getD_getElem?, hle] at hl; rw [show b = true from hl])
      rw [Nat.zero_add] at hst
      obtain ⟨t, ht⟩ : ∃ t, dsts[i]? = some t := ⟨dsts[i]'(by omega), List.getElem?_eq_getElem (by omega)⟩
      have htd : dsts.getD i 0 = t := by rw [List.getD_eq_getElem?_getD, ht]; rfl
      have hfi := hfm i hil
      rw [ho', ht] at hfi
      simp only [Bool.and_eq_true, Bool.or_eq_true, decide_eq_true_eq] at hfi
      obtain ⟨hgd, hfi⟩ := hfi
      have after : ∀ u w', ((dsts.getD i 0 < x.length → u = vs.getD i undef) ∧ J (upd (fun i => listed.getD i false) i) w') → wpAny P .any l.toArray Q fuel (listed.setIfInBounds i true) (Act.put ⟨frameOf x.length y, d⟩ o.dst u) w' := by
        rintro u w' ⟨hu, hJw⟩
        rw [htd] at hu
        have ea : (Act.put ⟨frameOf x.length y, d⟩ o.dst u) = ⟨frameOf x.length (fun s => if s = t then u else y s), d⟩ := by
          rcases hfi with ⟨h1, h2⟩ | ⟨h1, h2⟩
          · rw [h1]
            simp only [Act.put, frameOf_set]
          · have : o.dst = none := by simpa using h1
            rw [this]
            simp only [Act.put]
            congr 1
            apply Array.ext_getElem?
            intro s
            by_cases hs : s < x.length
            · rw [frameOf_get _ _ _ hs, frameOf_get _ _ _ hs, if_neg (by omega)]
            · rw [Array.getElem?_eq_none (by rw [frameOf_size]; omega), Array.getElem?_eq_none (by rw [frameOf_size]; omega)]
        rw [ea]
        have hlf := left_set listed.toList i (by simpa using hli)
        refine ih _ _ _ ?_ (by rw [Array.size_setIfInBounds, hsz]) ?_ ?_ (hJ _ _ _ ?_ hJw)
        · unfold left at hf ⊢
          rw [Array.toList_setIfInBounds]
          omega
        · intro s hs
          have hst : s ≠ t := fun e => hs (e ▸ List.mem_of_getElem? ht)
          simp only [hst, if_false]
          exact hy s hs
        · intro j hj hjt
          by_cases hji : j = i
          · subst hji
            rw [htd] at hjt ⊢
            simpa using hu hjt
          · rw [Array.getElem?_setIfInBounds_ne (Ne.symm hji)] at hj
            have hjl : j < dsts.length := by
              have := (Array.getElem?_eq_some_iff.1 hj).1
              omega
            have hne : dsts.getD j 0 ≠ t := by
              rw [List.getD_eq_getElem?_getD, List.getElem?_eq_getElem hjl]
              intro e
              have hit : dsts[i]'(by omega) = t := (List.getElem?_eq_some_iff.1 ht).2
              have := nodup_inj hnd j i hjl (by omega) (show dsts[j] = dsts[i]'(by omega) from by rw [hit]; simpa using e)
              exact hji this
            simp only [hne, if_false]
            exact hF j hj hjt
        · intro j hj
          by_cases hji : j = i
          · subst hji
            rw [upd_same, Array.getD_eq_getD_getElem?, Array.getElem?_setIfInBounds_self_of_lt (by omega)]
            rfl
          · rw [upd_other _ hji, Array.getD_eq_getD_getElem?, Array.getD_eq_getD_getElem?, Array.getElem?_setIfInBounds_ne (Ne.symm hji)]
      unfold wpOp
      rw [ho]
      simp only
      have hw : Region.wanted o (yielded l.toArray (frameOf x.length y)) = true := by
        have : o.guard = none := by simpa using hgd
        unfold Region.wanted; rw [this]
      rw [if_pos hw]
      exact .inl (hst _ _ after)

/-- The law, at a region that draws its order. -/
theorem wp_region_inv {id : Nat} {l : List Oper} {x : List Value} {d : List Deferred} {w : World} (hm : P.follows .mixedOrders = true) (n : Nat) (hn : x.length = n) (dsts : List Nat) (vs : List Value) (J : (Nat → Bool) → World → Prop)
    (hJ : ∀ L L' w, (∀ i, i < l.length → L i = L' i) → J L w → J L' w)
    (hok : invOk l dsts n = true) (hst : J (fun _ => false) w.drew) (hsteps : StepsInv P J n x d dsts vs 0 l)
    (hend : ∀ (L : Nat → Bool) (w' : World), J L w' → (∀ i, i < l.length → L i = true) → Q .normal ⟨(putAll (fun i => vs.getD i undef) 0 dsts x).toArray, d⟩ w') :
    (Code.region id l.toArray true).wp P Q ⟨x.toArray, d⟩ w := by
  subst hn
  refine wp_region_any hm ?_
  change wpAny P .any l.toArray Q _ _ _ w.drew
  rw [frameOf_list x]
  have hl : ∀ n, ((List.replicate n false).filter (!·)).length = n := fun n => by induction n with
    | zero => rfl
    | succ n ih => rw [List.replicate_succ]; simp
  refine wpAny_inv dsts vs J hJ hok hsteps hend _ _ _ _ ?_ (by simp) (fun t ht => rfl) ?_ (hJ _ _ _ ?_ hst)
  · unfold left
    rw [Array.toList_replicate, hl]
    exact Nat.le_refl _
  · intro i hi
    rw [Array.getElem?_replicate] at hi
    split at hi <;> cases hi
  · intro i hi
    rw [Array.getD_eq_getD_getElem?, Array.getElem?_replicate]
    split <;> rfl
end
/-- Operations that look at no memory, and a map's making. -/
theorem step_move {P : Program} {o : Oper} {a : Act} {w : World} {post : Value → World → Prop} (x : Operand) (ho : o.op = .move x ∨ o.op = .assign x) (h : post (a.eval x) w) : StepFact P o a w post := by
  intro K Q hK
  have := hK _ _ h
  unfold Oper.wp Oper.upon
  rcases ho with ho | ho <;> simpa [execOp, ho, Result.andThen] using this
end Go.Proofs.YtkhfmgifpppcmaaDoor
namespace Go.Proofs.YtkhfmgifpppcmaaDoor
open Go.RowKit
set_option linter.unusedVariables false

/-- What is to be shown of the operations from number i on: behind those that it waits for, an operation lays its own value, and keeps the word J. -/
def StepsRun (P : Program) (ops : List Oper) (J : (Nat → Bool) → World → Prop) (n : Nat) (x : List Value) (d : List Deferred) (dsts : List Nat) (vs : List Value) : Nat → List Oper → Prop
  | _, [] => True
  | i, o :: l => (∀ (L : Nat → Bool) (y : Nat → Value) (w : World), J L w → L i = false → (∀ t, t ∉ dsts → y t = x.getD t undef) → (∀ j, j ∈ preds o → L j = true ∧ (dsts.getD j 0 < n → y (dsts.getD j 0) = vs.getD j undef)) →
      (∀ k q, ops[k]? = some q → L k = true → ∀ j, j ∈ preds q → L j = true) → (∀ k, k < ops.length → L k = false → dsts.getD k 0 < n → y (dsts.getD k 0) = x.getD (dsts.getD k 0) undef) →
      StepFact P o ⟨frameOf n y, d⟩ w fun u w' => (dsts.getD i 0 < n → u = vs.getD i undef) ∧ J (upd L i) w') ∧ StepsRun P ops J n x d dsts vs (i + 1) l
theorem StepsRun.get {P : Program} {ops : List Oper} {J : (Nat → Bool) → World → Prop} {n : Nat} {x : List Value} {d : List Deferred} {dsts : List Nat} {vs : List Value} :
    ∀ {l : List Oper} {k : Nat}, StepsRun P ops J n x d dsts vs k l → ∀ i o, l[i]? = some o →
      ∀ (L : Nat → Bool) (y : Nat → Value) (w : World), J L w → L (k + i) = false → (∀ t, t ∉ dsts → y t = x.getD t undef) → (∀ j, j ∈ preds o → L j = true ∧ (dsts.getD j 0 < n → y (dsts.getD j 0) = vs.getD j undef)) →
        (∀ k q, ops[k]? = some q → L k = true → ∀ j, j ∈ preds q → L j = true) → (∀ k, k < ops.length → L k = false → dsts.getD k 0 < n → y (dsts.getD k 0) = x.getD (dsts.getD k 0) undef) →
        StepFact P o ⟨frameOf n y, d⟩ w fun u w' => (dsts.getD (k + i) 0 < n → u = vs.getD (k + i) undef) ∧ J (upd L (k + i)) w'
  | [], _, _, _, _, h => by simp at h
  | o :: l, k, hs, 0, o', h => by
    simp only [List.getElem?_cons_zero, Option.some.injEq] at h
    subst h
    exact hs.1
  | o :: l, k, hs, i + 1, o', h => by
    rw [List.getElem?_cons_succ] at h
    have := hs.2.get i o' h
    rwa [show k + 1 + i = k + (i + 1) from by omega] at this

section
variable {P : Program} {Q : Exit → Act → World → Prop}
theorem wpAny_run {l : List Oper} {x : List Value} {d : List Deferred} (dsts : List Nat) (vs : List Value) (J : (Nat → Bool) → World → Prop)
    (hJ : ∀ L L' w, (∀ i, i < l.length → L i = L' i) → J L w → J L' w)
    (hok : invOk l dsts x.length = true) (hsteps : StepsRun P l J x.length x d dsts vs 0 l)
    (hend : ∀ (L : Nat → Bool) (w : World), J L w → (∀ i, i < l.length → L i = true) → Q .normal ⟨(putAll (fun i => vs.getD i undef) 0 dsts x).toArray, d⟩ w) :
    ∀ (fuel : Nat) (listed : Array Bool) (y : Nat → Value) (w : World), left listed ≤ fuel → listed.size = l.length → (∀ t, t ∉ dsts → y t = x.getD t undef) →
      (∀ i, listed[i]? = some true → dsts.getD i 0 < x.length → y (dsts.getD i 0) = vs.getD i undef) → J (fun i => listed.getD i false) w →
      (∀ k q, l[k]? = some q → listed.getD k false = true → ∀ j, j ∈ preds q → listed.getD j false = true) → (∀ k, k < l.length → listed.getD k false = false → dsts.getD k 0 < x.length → y (dsts.getD k 0) = x.getD (dsts.getD k 0) undef) → wpAny P .any l.toArray Q fuel listed ⟨frameOf x.length y, d⟩ w := by
  simp only [invOk, Bool.and_eq_true, decide_eq_true_eq, List.all_eq_true, List.mem_range] at hok
  obtain ⟨⟨⟨hdl, hnd⟩, hfm⟩, hord⟩ := hok
  have fin : ∀ (listed : Array Bool) (y : Nat → Value) (w : World), listed.size = l.length → (∀ t, t ∉ dsts → y t = x.getD t undef) →
      (∀ i, listed[i]? = some true → dsts.getD i 0 < x.length → y (dsts.getD i 0) = vs.getD i undef) → J (fun i => listed.getD i false) w → (∀ i, i < l.length → listed[i]? = some true) → Q .normal ⟨frameOf x.length y, d⟩ w := by
    intro listed y w hsz hy hF hb hall
    have h := hend _ w hb (fun i hi => by rw [Array.getD_eq_getD_getElem?, hall i hi]; rfl)
    have e : (putAll (fun i => vs.getD i undef) 0 dsts x).toArray = frameOf x.length y := by
      obtain ⟨h1, h2, h3⟩ := putAll_get' (fun i => vs.getD i undef) dsts 0 x hnd
      apply Array.ext_getElem?
      intro t
      rw [List.getElem?_toArray]
      by_cases ht : t < x.length
      · rw [frameOf_get _ _ _ ht]
        by_cases hm : t ∈ dsts
        · obtain ⟨j, hj, hjt⟩ := List.getElem_of_mem hm
          have hj' : dsts[j]? = some t := by rw [List.getElem?_eq_getElem hj, hjt]
          have hjd : dsts.getD j 0 = t := by rw [List.getD_eq_getElem?_getD, hj']; rfl
          rw [h2 j t hj' ht, Nat.zero_add]
          have := hF j (hall j (by omega)) (by rw [hjd]; exact ht)
          rw [hjd] at this
          rw [this]
        · rw [h3 t hm, hy t hm, List.getD_eq_getElem?_getD, List.getElem?_eq_getElem ht]
          rfl
      · rw [List.getElem?_eq_none (by omega), Array.getElem?_eq_none (by rw [frameOf_size]; omega)]
    rw [e] at h
    exact h
  intro fuel
  induction fuel with
  | zero =>
    intro listed y w hf hsz hy hF hb hcl hun
    have hall : ∀ i, i < l.length → listed[i]? = some true := fun i hi => by
      have := left_zero listed.toList (by unfold left at hf; omega) i (by rw [Array.length_toList, hsz]; exact hi)
      simpa using this
    refine ⟨?_, fin listed y w hsz hy hF hb hall⟩
    apply List.eq_nil_iff_forall_not_mem.2
    intro j hj
    obtain ⟨h0, o, ho, _⟩ := mem_ready.1 hj
    have hjl : j < l.length := by
      have := (Array.getElem?_eq_some_iff.1 ho).1
      simpa using this
    rw [Array.getD_eq_getD_getElem?, hall j hjl] at h0
    cases h0
  | succ fuel ih =>
    intro listed y w hf hsz hy hF hb hcl hun
    refine ⟨fun hr => ?_, fun i hi => ?_⟩
    · refine fin listed y w hsz hy hF hb ?_
      intro i
      induction i using Nat.strongRecOn with
      | ind i ihi =>
        intro hi
        cases hli : listed[i]? with
        | none => rw [Array.getElem?_eq_none_iff] at hli; omega
        | some b =>
          cases b with
          | true => rfl
          | false =>
            exfalso
            have : i ∈ Region.ready .any l.toArray listed := by
              refine mem_ready.2 ⟨by rw [Array.getD_eq_getD_getElem?, hli]; rfl, l[i], by rw [List.getElem?_toArray, List.getElem?_eq_getElem hi], fun e he hbe => ?_⟩
              have h1 := hord i hi
              rw [List.getElem?_eq_getElem hi] at h1
              have h2 := List.all_eq_true.1 h1 e (by simpa using he)
              rw [hbe] at h2
              have h3 : e.on < i := by simpa using h2
              rw [Array.getD_eq_getD_getElem?, ihi e.on h3 (by omega)]
              rfl
            rw [hr] at this
            cases this
    · obtain ⟨h0, o, ho, hall⟩ := mem_ready.1 hi
      have ho' : l[i]? = some o := by simpa using ho
      have hil : i < l.length := (List.getElem?_eq_some_iff.1 ho').1
      have hli : listed[i]? = some false := by
        cases hli : listed[i]? with
        | none => rw [Array.getElem?_eq_none_iff] at hli; omega
        | some b => rw [Array.getD_eq_getD_getElem?, hli] at h0; rw [show b = false from h0]
      have hst := hsteps.get i o ho' (fun i => listed.getD i false) y w hb (by rw [Nat.zero_add]; show listed.getD i false = false; rw [Array.getD_eq_getD_getElem?, hli]; rfl) hy (fun j hj => by
        unfold preds at hj
        obtain ⟨e, he, rfl⟩ := List.mem_map.1 hj
        obtain ⟨he1, he2⟩ := List.mem_filter.1 he
        have hl := hall e (by simpa using he1) he2
        refine ⟨hl, hF e.on ?_⟩
        cases hle : listed[e.on]? with
        | none => rw [Array.getD_eq_getD_getElem?, hle] at hl; cases hl
        | some b => rw [Array.getD_eq_getD_getElem?, hle] at hl; rw [show b = true from hl]) hcl hun
      rw [Nat.zero_add] at hst
      obtain ⟨t, ht⟩ : ∃ t, dsts[i]? = some t := ⟨dsts[i]'(by omega), List.getElem?_eq_getElem (by omega)⟩
      have htd : dsts.getD i 0 = t := by rw [List.getD_eq_getElem?_getD, ht]; rfl
      have hfi := hfm i hil
      rw [ho', ht] at hfi
      simp only [Bool.and_eq_true, Bool.or_eq_true, decide_eq_true_eq] at hfi
      obtain ⟨hgd, hfi⟩ := hfi
      have after : ∀ u w', ((dsts.getD i 0 < x.length → u = vs.getD i undef) ∧ J (upd (fun i => listed.getD i false) i) w') → wpAny P .any l.toArray Q fuel (listed.setIfInBounds i true) (Act.put ⟨frameOf x.length y, d⟩ o.dst u) w' := by
        rintro u w' ⟨hu, hJw⟩
        rw [htd] at hu
        have ea : (Act.put ⟨frameOf x.length y, d⟩ o.dst u) = ⟨frameOf x.length (fun s => if s = t then u else y s), d⟩ := by
          rcases hfi with ⟨h1, h2⟩ | ⟨h1, h2⟩
          · rw [h1]
            simp only [Act.put, frameOf_set]
          · have : o.dst = none := by simpa using h1
            rw [this]
            simp only [Act.put]
            congr 1
            apply Array.ext_getElem?
            intro s
            by_cases hs : s < x.length
            · rw [frameOf_get _ _ _ hs, frameOf_get _ _ _ hs, if_neg (by omega)]
            · rw [Array.getElem?_eq_none (by rw [frameOf_size]; omega), Array.getElem?_eq_none (by rw [frameOf_size]; omega)]
        rw [ea]
        have hlf := left_set listed.toList i (by simpa using hli)
        have hup : ∀ j, (listed.setIfInBounds i true).getD j false = if j = i then true else listed.getD j false := by
          intro j
          by_cases hji : j = i
          · subst hji
            rw [if_pos rfl, Array.getD_eq_getD_getElem?, Array.getElem?_setIfInBounds_self_of_lt (by omega)]; rfl
          · rw [if_neg hji, Array.getD_eq_getD_getElem?, Array.getD_eq_getD_getElem?, Array.getElem?_setIfInBounds_ne (Ne.symm hji)]
        refine ih _ _ _ ?_ (by rw [Array.size_setIfInBounds, hsz]) ?_ ?_ (hJ _ _ _ ?_ hJw) ?_ ?_
        · unfold left at hf ⊢
          rw [Array.toList_setIfInBounds]
          omega
        · intro s hs
          have hst : s ≠ t := fun e => hs (e ▸ List.mem_of_getElem? ht)
          simp only [hst, if_false]
          exact hy s hs
        · intro j hj hjt
          by_cases hji : j = i
          · subst hji
            rw [htd] at hjt ⊢
            simpa using hu hjt
          · rw [Array.getElem?_setIfInBounds_ne (Ne.symm hji)] at hj
            have hjl : j < dsts.length := by
              have := (Array.getElem?_eq_some_iff.1 hj).1
              omega
            have hne : dsts.getD j 0 ≠ t := by
              rw [List.getD_eq_getElem?_getD, List.getElem?_eq_getElem hjl]
              intro e
              have hit : dsts[i]'(by omega) = t := (List.getElem?_eq_some_iff.1 ht).2
              have := nodup_inj hnd j i hjl (by omega) (show dsts[j] = dsts[i]'(by omega) from by rw [hit]; simpa using e)
              exact hji this
            simp only [hne, if_false]
            exact hF j hj hjt
        · intro j hj
          by_cases hji : j = i
          · subst hji
            rw [upd_same, Array.getD_eq_getD_getElem?, Array.getElem?_setIfInBounds_self_of_lt (by omega)]
            rfl
          · rw [upd_other _ hji, Array.getD_eq_getD_getElem?, Array.getD_eq_getD_getElem?, Array.getElem?_setIfInBounds_ne (Ne.symm hji)]
        · intro k q hk hLk j hj
          rw [hup] at hLk ⊢
          by_cases hji : j = i
          · rw [if_pos hji]
          · rw [if_neg hji]
            by_cases hki : k = i
            · subst hki
              rw [ho'] at hk
              injection hk with hk
              subst hk
              unfold preds at hj
              obtain ⟨e, he, rfl⟩ := List.mem_map.1 hj
              obtain ⟨he1, he2⟩ := List.mem_filter.1 he
              have hl := hall e (by simpa using he1) he2
              cases hle : listed[e.on]? with
              | none => rw [Array.getD_eq_getD_getElem?, hle] at hl; cases hl
              | some b => rw [Array.getD_eq_getD_getElem?, hle] at hl ⊢; exact hl
            · rw [if_neg hki] at hLk
              exact hcl k q hk hLk j hj
        · intro k hk hLk hkn
          rw [hup] at hLk
          by_cases hki : k = i
          · rw [if_pos hki] at hLk; cases hLk
          · rw [if_neg hki] at hLk
            have hne : dsts.getD k 0 ≠ t := by
              rw [List.getD_eq_getElem?_getD, List.getElem?_eq_getElem (by omega)]
              intro e
              have hit : dsts[i]'(by omega) = t := (List.getElem?_eq_some_iff.1 ht).2
              have := nodup_inj hnd k i (by omega) (by omega) (show dsts[k]'(by omega) = dsts[i]'(by omega) from by rw [hit]; simpa using e)
              exact hki this
            simp only [hne, if_false]
            exact hun k hk hLk hkn
      unfold wpOp
      rw [ho]
      simp only
      have hw : Region.wanted o (yielded l.toArray (frameOf x.length y)) = true := by
        have : o.guard = none := by simpa using hgd
        unfold Region.wanted; rw [this]
      rw [if_pos hw]
      exact .inl (hst _ _ after)

/-- The law, at a region that draws its order. -/
theorem wp_region_run {id : Nat} {l : List Oper} {x : List Value} {d : List Deferred} {w : World} (hm : P.follows .mixedOrders = true) (n : Nat) (hn : x.length = n) (dsts : List Nat) (vs : List Value) (J : (Nat → Bool) → World → Prop)
    (hJ : ∀ L L' w, (∀ i, i < l.length → L i = L' i) → J L w → J L' w)
    (hok : invOk l dsts n = true) (hst : J (fun _ => false) w.drew) (hsteps : StepsRun P l J n x d dsts vs 0 l)
    (hend : ∀ (L : Nat → Bool) (w' : World), J L w' → (∀ i, i < l.length → L i = true) → Q .normal ⟨(putAll (fun i => vs.getD i undef) 0 dsts x).toArray, d⟩ w') :
    (Code.region id l.toArray true).wp P Q ⟨x.toArray, d⟩ w := by
  subst hn
  refine wp_region_any hm ?_
  change wpAny P .any l.toArray Q _ _ _ w.drew
  rw [frameOf_list x]
  have hl : ∀ n, ((List.replicate n false).filter (!·)).length = n := fun n => by induction n with
    | zero => rfl
    | succ n ih => rw [List.replicate_succ]; simp
  refine wpAny_run dsts vs J hJ hok hsteps hend _ _ _ _ ?_ (by simp) (fun t ht => rfl) ?_ (hJ _ _ _ ?_ hst) (fun k q hk hLk => ?_) (fun k hk _ _ => rfl)
  · unfold left
    rw [Array.toList_replicate, hl]
    exact Nat.le_refl _
  · intro i hi
    rw [Array.getElem?_replicate] at hi
    split at hi <;> cases hi
  · intro i hi
    rw [Array.getD_eq_getD_getElem?, Array.getElem?_replicate]
    split <;> rfl
  · rw [Array.getD_eq_getD_getElem?, Array.getElem?_replicate] at hLk
    split at hLk <;> cases hLk
end
theorem eval_frame (n : Nat) (y : Nat → Value) (d : List Deferred) {t : Nat} (h : t < n) : (⟨frameOf n y, d⟩ : Act).eval (.tmp t) = y t := by
  simp [Act.eval, frameOf_get _ _ _ h]
theorem step_append {P : Program} {o : Oper} {a : Act} {w w' : World} {post : Value → World → Prop} (t : TypeId) (s x : Operand) (ho : o.op = .call { callee := .builtin .append, args := #[s, x], argTypes := #[t, t] }) (S X : Value) {v' : Value} (hs : a.eval s = S) (hx : a.eval x = X)
    (hr : (Builtin.append_ #[t, t] o.type #[S, X]).run P w = .ok v' w') (h : post v' w') : StepFact P o a w post := by
  intro K Q hK
  have := hK _ _ h
  unfold Oper.wp execOp
  simp only [ho, resolve, invoke, builtin, Sem.run_bind, Sem.run_pure, Result.andThen_ok, List.map_toArray, List.map_cons, List.map_nil, hs, hx, hr]
  exact this
/-- Two operations that make memory, one behind the other. -/
def J2 (i j : Nat) (W0 W1 W2 : World) (L : Nat → Bool) (w : World) : Prop := w = if L j = true then W2 else if L i = true then W1 else W0
theorem J2.congr {i j m : Nat} {W0 W1 W2 : World} (hi : i < m) (hj : j < m) : ∀ L L' w, (∀ k, k < m → L k = L' k) → J2 i j W0 W1 W2 L w → J2 i j W0 W1 W2 L' w := by
  intro L L' w h hJ
  unfold J2 at *
  rw [← h i hi, ← h j hj]; exact hJ
theorem J2.pure {i j k : Nat} {W0 W1 W2 w : World} {L : Nat → Bool} (h : J2 i j W0 W1 W2 L w) (hi : i ≠ k) (hj : j ≠ k) : J2 i j W0 W1 W2 (upd L k) w := by
  unfold J2 at *
  rw [upd_other _ hi, upd_other _ hj]; exact h
theorem J2.first {i j : Nat} {W0 W1 W2 w : World} {L : Nat → Bool} (h : J2 i j W0 W1 W2 L w) (hij : j ≠ i) (hL : L i = false) (hcl : L j = true → L i = true) : w = W0 ∧ J2 i j W0 W1 W2 (upd L i) W1 := by
  have hLj : L j = false := by
    cases hh : L j with
    | false => rfl
    | true => rw [hcl hh] at hL; cases hL
  unfold J2 at *
  rw [upd_same, upd_other _ hij, hLj]
  rw [hLj, hL] at h
  exact ⟨by simpa using h, by simp⟩
theorem J2.second {i j : Nat} {W0 W1 W2 w : World} {L : Nat → Bool} (h : J2 i j W0 W1 W2 L w) (hij : i ≠ j) (hL : L j = false) (hLi : L i = true) : w = W1 ∧ J2 i j W0 W1 W2 (upd L j) W2 := by
  unfold J2 at *
  rw [hL, hLi] at h
  rw [upd_same]
  exact ⟨by simpa using h, by simp⟩
theorem J2.done {i j : Nat} {W0 W1 W2 w : World} {L : Nat → Bool} (h : J2 i j W0 W1 W2 L w) (hL : L j = true) : w = W2 := by
  unfold J2 at h; rw [hL] at h; simpa using h
theorem J2.all {i j : Nat} {W0 W1 W2 w : World} {L : Nat → Bool} (h : J2 i j W0 W1 W2 L w) {p : World → Prop} (h0 : p W0) (h1 : p W1) (h2 : p W2) : p w := by
  unfold J2 at h; subst h; split
  · exact h2
  · split
    · exact h1
    · exact h0
end Go.Proofs.YtkhfmgifpppcmaaDoor
namespace Go.Proofs.YtkhfmgifpppcmaaDoor
open Go.RowKit
set_option linter.unusedVariables false

/-- A value that is known, in whatever world. -/
def Is (v : Value) : Value → World → Prop := fun u _ => u = v
/-- A slice that reads as zs. -/
def Reads (zs : List Int) (u : Value) (w : World) : Prop := ∃ a c, u = .slice a zs.length c ∧ Bys w w.heap.size a zs.length zs
def Stays (a b : World) : Prop := Below a.heap.size a b
theorem Stays.refl (a : World) : Stays a a := Below.refl _ _
theorem Stays.trans (a b c : World) (h : Stays a b) (k : Stays b c) : Stays a c := Below.trans h (k.mono h.size)
def Mono (f : Value → World → Prop) : Prop := ∀ u w w', f u w → Stays w w' → f u w'
theorem Is.mono (v : Value) : Mono (Is v) := fun _ _ _ h _ => h
theorem Reads.mono (zs : List Int) : Mono (Reads zs) := fun _ _ _ h hb => by
  obtain ⟨a, c', e, hm⟩ := h
  exact ⟨a, c', e, (hm.below hb).more hb.size⟩
/-- The facts of a list, one an operation. -/
def factsOf (Fs : List (Value → World → Prop)) (i : Nat) : Value → World → Prop := Fs.getD i fun _ _ => True
theorem factsOf_mono {Fs : List (Value → World → Prop)} (h : ∀ f ∈ Fs, Mono f) : ∀ (i : Nat) (u : Value) (w w' : World), factsOf Fs i u w → Stays w w' → factsOf Fs i u w' := by
  intro i u w w' h1 hb
  unfold factsOf at *
  by_cases hi : i < Fs.length
  · rw [List.getD_eq_getElem?_getD, List.getElem?_eq_getElem hi] at *
    exact h _ (List.getElem_mem hi) u w w' h1 hb
  · rw [List.getD_eq_getElem?_getD, List.getElem?_eq_none (by omega)]
    trivial
theorem mono_cons {f : Value → World → Prop} {Fs : List (Value → World → Prop)} (h : Mono f) (k : ∀ g ∈ Fs, Mono g) : ∀ g ∈ f :: Fs, Mono g := by
  intro g hg
  rcases List.mem_cons.1 hg with rfl | hg
  · exact h
  · exact k g hg
theorem mono_nil : ∀ g ∈ ([] : List (Value → World → Prop)), Mono g := fun _ h => by cases h
end Go.Proofs.YtkhfmgifpppcmaaDoor
