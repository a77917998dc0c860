/-
  What is proved here: a law for a region that draws its order: it is enough that each operation, behind those that it waits for, lays a fact on its own slot, and that facts stay under what the operations do to the world. One obligation an operation, in whatever order they come up.
  Conditions: each operation writes a slot of its own; nothing here speaks of the program.
-/
import Derived.Test.YtkhfmgifpppcmaaDoorBase
import Derived.RegionTactic
namespace Go.Proofs.YtkhfmgifpppcmaaDoor
open Go.RowKit
set_option linter.unusedVariables false

/-- The frame whose slots are y. -/
def frameOf (n : Nat) (y : Nat → Value) : Array Value := ((List.range n).map y).toArray
theorem frameOf_size (n : Nat) (y : Nat → Value) : (frameOf n y).size = n := by simp [frameOf]
theorem frameOf_get (n : Nat) (y : Nat → Value) (t : Nat) (h : t < n) : (frameOf n y)[t]? = some (y t) := by simp [frameOf, h]
theorem frameOf_set (n : Nat) (y : Nat → Value) (t : Nat) (u : Value) : (frameOf n y).setIfInBounds t u = frameOf n (fun s => if s = t then u else y s) := by
  apply Array.ext_getElem?
  intro i
  rw [Array.getElem?_setIfInBounds]
  by_cases hi : i < n
  · rw [frameOf_get _ _ _ hi, frameOf_get _ _ _ hi, frameOf_size]
    by_cases h : t = i
    · subst h; simp [hi]
    · simp [h, Ne.symm h]
  · rw [Array.getElem?_eq_none (by rw [frameOf_size]; omega), Array.getElem?_eq_none (by rw [frameOf_size]; omega), frameOf_size]
    by_cases h : t = i
    · subst h; simp [hi]
    · simp [h]
/-- A frame that is written out is one. -/
theorem frameOf_list (x : List Value) : x.toArray = frameOf x.length (fun t => x.getD t undef) := by
  apply Array.ext_getElem?
  intro i
  by_cases hi : i < x.length
  · rw [frameOf_get _ _ _ hi]; simp [hi]
  · rw [Array.getElem?_eq_none (by simpa using hi), Array.getElem?_eq_none (by rw [frameOf_size]; omega)]

/-- From 'a' and 'w' the operation comes to a value and a world of which 'post' holds. -/
def StepFact (P : Program) (o : Oper) (a : Act) (w : World) (post : Value → World → Prop) : Prop :=
  ∀ (K : Act → World → Prop) (Q : Exit → Act → World → Prop), (∀ u w', post u w' → K (a.put o.dst u) w') → o.wp P a w K Q

/-- The frame x with the values v of the operations from number i on in their slots. -/
def putAll (v : Nat → Value) : Nat → List Nat → List Value → List Value
  | _, [], x => x
  | i, t :: ts, x => putAll v (i + 1) ts (x.set t (v i))

/-- The region's form: whose slots, all apart, each operation waits for earlier ones alone. -/
def factsOk (l : List Oper) (dsts : List Nat) (n : Nat) : Bool :=
  decide (l.map (·.dst) = dsts.map some) && decide dsts.Nodup && dsts.all (· < n) &&
  (List.range l.length).all fun i => match l[i]? with
    | some o => o.after.toList.all fun e => !Region.binds .any e || decide (e.on < i)
    | none => true

/-- Whom an operation waits for. -/
def preds (o : Oper) : List Nat := (o.after.toList.filter (Region.binds .any)).map (·.on)

/-- Where the operation is wanted it lays its fact; where it is not its slot holds none. -/
def StepG (P : Program) (L : List Oper) (o : Oper) (a : Act) (w : World) (R : World → World → Prop) (F : Value → World → Prop) : Prop :=
  (Region.wanted o (yielded L.toArray a.tmps) = true → StepFact P o a w fun u w' => R w w' ∧ F u w') ∧ (Region.wanted o (yielded L.toArray a.tmps) = false → F undef w)
theorem StepG.plain {P : Program} {L : List Oper} {o : Oper} {a : Act} {w : World} {R : World → World → Prop} {F : Value → World → Prop} (hg : o.guard = none) (h : StepFact P o a w fun u w' => R w w' ∧ F u w') : StepG P L o a w R F :=
  ⟨fun _ => h, fun hw => by
    have : Region.wanted o (yielded L.toArray a.tmps) = true := by unfold Region.wanted; rw [hg]
    rw [this] at hw; cases hw⟩
theorem wanted_of {L : List Oper} {o g : Oper} {j t : Nat} {b c : Bool} {tmps : Array Value} (hg : o.guard = some (j, b)) (hj : L[j]? = some g) (hd : g.dst = some t) (ht : tmps[t]? = some (.bool c)) : Region.wanted o (yielded L.toArray tmps) = (c == b) := by
  unfold Region.wanted yielded
  simp [hg, hj, hd, ht]
/-- A guarded operation that is wanted; one that is not. -/
theorem StepG.yes {P : Program} {L : List Oper} {o : Oper} {n : Nat} {y : Nat → Value} {d : List Deferred} {w : World} {R : World → World → Prop} {F : Value → World → Prop} {g : Oper} {j t : Nat} {b : Bool} (hg : o.guard = some (j, b)) (hj : L[j]? = some g) (hd : g.dst = some t) (htn : t < n) (ht : y t = .bool b)
    (h : StepFact P o ⟨frameOf n y, d⟩ w fun u w' => R w w' ∧ F u w') : StepG P L o ⟨frameOf n y, d⟩ w R F :=
  ⟨fun _ => h, fun hw => by
    rw [wanted_of (c := b) hg hj hd (by rw [frameOf_get _ _ _ htn, ht])] at hw
    simp at hw⟩
theorem StepG.no {P : Program} {L : List Oper} {o : Oper} {n : Nat} {y : Nat → Value} {d : List Deferred} {w : World} {R : World → World → Prop} {F : Value → World → Prop} {g : Oper} {j t : Nat} {b c : Bool} (hg : o.guard = some (j, b)) (hj : L[j]? = some g) (hd : g.dst = some t) (htn : t < n) (ht : y t = .bool c) (hcb : (c == b) = false)
    (h : F undef w) : StepG P L o ⟨frameOf n y, d⟩ w R F :=
  ⟨fun hw => absurd hw (by
    rw [wanted_of (c := c) hg hj hd (by rw [frameOf_get _ _ _ htn, ht]), hcb]
    decide), fun _ => h⟩

/-- What is to be shown of the operations from number i on. -/
def StepsFrom (P : Program) (L : List Oper) (R : World → World → Prop) (n : Nat) (x : List Value) (d : List Deferred) (w0 : World) (dsts : List Nat) (F : Nat → Value → World → Prop) : Nat → List Oper → Prop
  | _, [] => True
  | i, o :: l => (∀ (y : Nat → Value) (w : World), R w0 w → (∀ t, t ∉ dsts → y t = x.getD t undef) → (∀ j, j ∈ preds o → F j (y (dsts.getD j 0)) w) →
      StepG P L o ⟨frameOf n y, d⟩ w R (F i)) ∧ StepsFrom P L R n x d w0 dsts F (i + 1) l
theorem StepsFrom.get {P : Program} {L : List Oper} {R : World → World → Prop} {n : Nat} {x : List Value} {d : List Deferred} {w0 : World} {dsts : List Nat} {F : Nat → Value → World → Prop} :
    ∀ {l : List Oper} {k : Nat}, StepsFrom P L R n x d w0 dsts F k l → ∀ i o, l[i]? = some o →
      ∀ (y : Nat → Value) (w : World), R w0 w → (∀ t, t ∉ dsts → y t = x.getD t undef) → (∀ j, j ∈ preds o → F j (y (dsts.getD j 0)) w) →
        StepG P L o ⟨frameOf n y, d⟩ w R (F (k + i))
  | [], _, _, _, _, h => by simp at h
  | o :: l, k, hs, 0, o', h => by
    simp only [List.getElem?_cons_zero, Option.some.injEq] at h
    subst h
    exact hs.1
  | o :: l, k, hs, i + 1, o', h => by
    rw [List.getElem?_cons_succ] at h
    have := hs.2.get i o' h
    rwa [show k + 1 + i = k + (i + 1) from by omega] at this

theorem putAll_get (v : Nat → Value) : ∀ (ts : List Nat) (i : Nat) (x : List Value), ts.Nodup → (∀ t ∈ ts, t < x.length) →
    (putAll v i ts x).length = x.length ∧ (∀ j t, ts[j]? = some t → (putAll v i ts x)[t]? = some (v (i + j))) ∧ ∀ t, t ∉ ts → (putAll v i ts x)[t]? = x[t]?
  | [], i, x, _, _ => ⟨rfl, fun j t h => by simp at h, fun t _ => rfl⟩
  | s :: ts, i, x, hn, hl => by
    have hn' := List.nodup_cons.1 hn
    obtain ⟨h1, h2, h3⟩ := putAll_get v ts (i + 1) (x.set s (v i)) hn'.2 (fun t ht => by rw [List.length_set]; exact hl t (by simp [ht]))
    refine ⟨by rw [putAll, h1, List.length_set], fun j t hj => ?_, fun t ht => ?_⟩
    · cases j with
      | zero =>
        simp only [List.getElem?_cons_zero, Option.some.injEq] at hj
        subst hj
        rw [putAll, h3 s hn'.1, List.getElem?_set_self (hl s (by simp)), Nat.add_zero]
      | succ j =>
        rw [List.getElem?_cons_succ] at hj
        rw [putAll, h2 j t hj, show i + 1 + j = i + (j + 1) from by omega]
    · rw [putAll, h3 t (fun h => ht (by simp [h])), List.getElem?_set_ne (fun e => ht (by simp [e]))]

theorem nodup_inj {l : List Nat} (hn : l.Nodup) (i j : Nat) (hi : i < l.length) (hj : j < l.length) (h : l[i] = l[j]) : i = j := by
  have hp := List.pairwise_iff_getElem.1 hn
  rcases Nat.lt_trichotomy i j with hij | hij | hij
  · exact absurd h (hp i j hi hj hij)
  · exact hij
  · exact absurd h.symm (hp j i hj hi hij)

/-- How many have not come up. -/
def left (l : Array Bool) : Nat := (l.toList.filter (!·)).length
theorem left_set : ∀ (l : List Bool) (i : Nat), l[i]? = some false → ((l.set i true).filter (!·)).length + 1 = (l.filter (!·)).length
  | [], i, h => by simp at h
  | b :: l, 0, h => by
    simp only [List.getElem?_cons_zero, Option.some.injEq] at h
    subst h
    simp
  | b :: l, i + 1, h => by
    rw [List.getElem?_cons_succ] at h
    have := left_set l i h
    cases b <;> simp at this ⊢ <;> omega
theorem left_zero : ∀ (l : List Bool), (l.filter (!·)).length = 0 → ∀ i, i < l.length → l[i]? = some true
  | [], _, i, h => by simp at h
  | b :: l, h, i, hi => by
    cases b with
    | false => simp at h
    | true =>
      cases i with
      | zero => rfl
      | succ i => rw [List.getElem?_cons_succ]; exact left_zero l (by simpa using h) i (by simpa using hi)

section
variable {P : Program} {Q : Exit → Act → World → Prop}

theorem wpAny_facts {l : List Oper} {x : List Value} {d : List Deferred} {w0 : World} (R : World → World → Prop) (hrf : ∀ a, R a a) (htr : ∀ a b c, R a b → R b c → R a c) (dsts : List Nat) (F : Nat → Value → World → Prop)
    (hok : factsOk l dsts x.length = true) (hmono : ∀ i u w w', F i u w → R w w' → F i u w') (hsteps : StepsFrom P l R x.length x d w0 dsts F 0 l)
    (hend : ∀ (v : Nat → Value) (w : World), R w0 w → (∀ i, i < l.length → F i (v i) w) → Q .normal ⟨(putAll v 0 dsts x).toArray, d⟩ w) :
    ∀ (fuel : Nat) (listed : Array Bool) (y : Nat → Value) (w : World), left listed ≤ fuel → listed.size = l.length → (∀ t, t ∉ dsts → y t = x.getD t undef) →
      (∀ i, listed[i]? = some true → F i (y (dsts.getD i 0)) w) → R w0 w → wpAny P .any l.toArray Q fuel listed ⟨frameOf x.length y, d⟩ w := by
  simp only [factsOk, Bool.and_eq_true, decide_eq_true_eq, List.all_eq_true, List.mem_range] at hok
  obtain ⟨⟨⟨hd, hnd⟩, hlt⟩, hord⟩ := hok
  have hdl : dsts.length = l.length := by have := congrArg List.length hd; simpa using this.symm
  -- the end
  have fin : ∀ (listed : Array Bool) (y : Nat → Value) (w : World), listed.size = l.length → (∀ t, t ∉ dsts → y t = x.getD t undef) →
      (∀ i, listed[i]? = some true → F i (y (dsts.getD i 0)) w) → R w0 w → (∀ i, i < l.length → listed[i]? = some true) → Q .normal ⟨frameOf x.length y, d⟩ w := by
    intro listed y w hsz hy hF hb hall
    have h := hend (fun i => y (dsts.getD i 0)) w hb (fun i hi => hF i (hall i hi))
    have e : (putAll (fun i => y (dsts.getD i 0)) 0 dsts x).toArray = frameOf x.length y := by
      obtain ⟨h1, h2, h3⟩ := putAll_get (fun i => y (dsts.getD i 0)) dsts 0 x hnd (fun t ht => by simpa using hlt t ht)
      apply Array.ext_getElem?
      intro t
      rw [List.getElem?_toArray]
      by_cases ht : t < x.length
      · rw [frameOf_get _ _ _ ht]
        by_cases hm : t ∈ dsts
        · obtain ⟨j, hj, hjt⟩ := List.getElem_of_mem hm
          have hj' : dsts[j]? = some t := by rw [List.getElem?_eq_getElem hj, hjt]
          rw [h2 j t hj', Nat.zero_add, List.getD_eq_getElem?_getD, hj']
          rfl
        · rw [h3 t hm, hy t hm, List.getD_eq_getElem?_getD, List.getElem?_eq_getElem ht]
          rfl
      · rw [List.getElem?_eq_none (by omega), Array.getElem?_eq_none (by rw [frameOf_size]; omega)]
    rw [e] at h
    exact h
  intro fuel
  induction fuel with
  | zero =>
    intro listed y w hf hsz hy hF hb
    have hall : ∀ i, i < l.length → listed[i]? = some true := fun i hi => by
      have := left_zero listed.toList (by unfold left at hf; omega) i (by rw [Array.length_toList, hsz]; exact hi)
      simpa using this
    refine ⟨?_, fin listed y w hsz hy hF hb hall⟩
    apply List.eq_nil_iff_forall_not_mem.2
    intro j hj
    obtain ⟨h0, o, ho, _⟩ := mem_ready.1 hj
    have hjl : j < l.length := by
      have := (Array.getElem?_eq_some_iff.1 ho).1
      simpa using this
    rw [Array.getD_eq_getD_getElem?, hall j hjl] at h0
    cases h0
  | succ fuel ih =>
    intro listed y w hf hsz hy hF hb
    refine ⟨fun hr => ?_, fun i hi => ?_⟩
    · -- none is ready: all have come up
      refine fin listed y w hsz hy hF hb ?_
      intro i
      induction i using Nat.strongRecOn with
      | ind i ihi =>
        intro hi
        cases hli : listed[i]? with
        | none => rw [Array.getElem?_eq_none_iff] at hli; omega
        | some b =>
          cases b with
          | true => rfl
          | false =>
            exfalso
            have : i ∈ Region.ready .any l.toArray listed := by
              refine mem_ready.2 ⟨by rw [Array.getD_eq_getD_getElem?, hli]; rfl, l[i], by rw [List.getElem?_toArray, List.getElem?_eq_getElem hi], fun e he hbe => ?_⟩
              have h1 := hord i hi
              rw [List.getElem?_eq_getElem hi] at h1
              have h2 := List.all_eq_true.1 h1 e (by simpa using he)
              rw [hbe] at h2
              have h3 : e.on < i := by simpa using h2
              rw [Array.getD_eq_getD_getElem?, ihi e.on h3 (by omega)]
              rfl
            rw [hr] at this
            cases this
    · obtain ⟨h0, o, ho, hall⟩ := mem_ready.1 hi
      have ho' : l[i]? = some o := by simpa using ho
      have hil : i < l.length := (List.getElem?_eq_some_iff.1 ho').1
      have hli : listed[i]? = some false := by
        cases hli : listed[i]? with
        | none => rw [Array.getElem?_eq_none_iff] at hli; omega
        | some b => rw [Array.getD_eq_getD_getElem?, hli] at h0; rw [show b = false from h0]
      have hst := hsteps.get i o ho' y w hb hy (fun j hj => by
        unfold preds at hj
        obtain ⟨e, he, rfl⟩ := List.mem_map.1 hj
        obtain ⟨he1, he2⟩ := List.mem_filter.1 he
        have := hall e (by simpa using he1) he2
        refine hF e.on ?_
        cases hle : listed[e.on]? with
        | none => rw [Array.getD_eq_getD_getElem?, hle] at this; cases this
        | some b => rw [Array.getD_eq_getD_getElem?, hle] at this; rw [show b = true from this])
      rw [Nat.zero_add] at hst
      have hdi : dsts[i]? = o.dst := by
        have := congrArg (fun z => z[i]?) hd
        simp only [List.getElem?_map, ho', Option.map_some] at this
        cases hdi : dsts[i]? with
        | none => rw [hdi] at this; cases this
        | some t => rw [hdi] at this; simpa using this.symm
      obtain ⟨t, ht⟩ : ∃ t, dsts[i]? = some t := ⟨dsts[i]'(by omega), List.getElem?_eq_getElem (by omega)⟩
      have hdst : o.dst = some t := hdi ▸ ht
      have after : ∀ u w', R w w' → F i u w' → wpAny P .any l.toArray Q fuel (listed.setIfInBounds i true) (Act.put ⟨frameOf x.length y, d⟩ o.dst u) w' := by
        intro u w' hbw hFu
        have ea : (Act.put ⟨frameOf x.length y, d⟩ o.dst u) = ⟨frameOf x.length (fun s => if s = t then u else y s), d⟩ := by
          rw [hdst]
          simp only [Act.put, frameOf_set]
        rw [ea]
        have hlf := left_set listed.toList i (by simpa using hli)
        refine ih _ _ _ ?_ (by rw [Array.size_setIfInBounds, hsz]) ?_ ?_ (htr _ _ _ hb hbw)
        · unfold left at hf ⊢
          rw [Array.toList_setIfInBounds]
          omega
        · intro s hs
          have hst : s ≠ t := fun e => hs (e ▸ List.mem_of_getElem? ht)
          simp only [hst, if_false]
          exact hy s hs
        · intro j hj
          by_cases hji : j = i
          · subst hji
            rw [List.getD_eq_getElem?_getD, ht]
            simpa using hFu
          · rw [Array.getElem?_setIfInBounds_ne (Ne.symm hji)] at hj
            have hjl : j < dsts.length := by
              have := (Array.getElem?_eq_some_iff.1 hj).1
              omega
            have hne : dsts.getD j 0 ≠ t := by
              rw [List.getD_eq_getElem?_getD, List.getElem?_eq_getElem hjl]
              intro e
              have hit : dsts[i]'(by omega) = t := (List.getElem?_eq_some_iff.1 ht).2
              have := nodup_inj hnd j i hjl (by omega) (show dsts[j] = dsts[i]'(by omega) from by rw [hit]; simpa using e)
              exact hji this
            simp only [hne, if_false]
            exact hmono _ _ _ _ (hF j hj) hbw
      unfold wpOp
      rw [ho]
      simp only
      cases hw : Region.wanted o (yielded l.toArray (frameOf x.length y)) with
      | true =>
        rw [if_pos rfl]
        exact .inl (hst.1 hw _ _ fun u w' h => after u w' h.1 h.2)
      | false =>
        rw [if_neg (by decide)]
        exact after undef w (hrf w) (hst.2 hw)

/-- The law, at a region that draws its order. -/
theorem wp_region_facts {id : Nat} {l : List Oper} {x : List Value} {d : List Deferred} {w : World} (hm : P.follows .mixedOrders = true) (R : World → World → Prop) (hrf : ∀ a, R a a) (htr : ∀ a b c, R a b → R b c → R a c)
    (n : Nat) (hn : x.length = n) (dsts : List Nat) (F : Nat → Value → World → Prop)
    (hok : factsOk l dsts n = true) (hmono : ∀ i u w w', F i u w → R w w' → F i u w') (hsteps : StepsFrom P l R n x d w.drew dsts F 0 l)
    (hend : ∀ (v : Nat → Value) (w' : World), R w.drew w' → (∀ i, i < l.length → F i (v i) w') → Q .normal ⟨(putAll v 0 dsts x).toArray, d⟩ w') :
    (Code.region id l.toArray true).wp P Q ⟨x.toArray, d⟩ w := by
  subst hn
  refine wp_region_any hm ?_
  change wpAny P .any l.toArray Q _ _ _ w.drew
  rw [frameOf_list x]
  have hl : ∀ n, ((List.replicate n false).filter (!·)).length = n := fun n => by induction n with
    | zero => rfl
    | succ n ih => rw [List.replicate_succ]; simp
  refine wpAny_facts R hrf htr dsts F hok hmono hsteps hend _ _ _ _ ?_ (by simp) (fun t ht => rfl) ?_ (hrf _)
  · unfold left
    rw [Array.toList_replicate, hl]
    exact Nat.le_refl _
  · intro i hi
    rw [Array.getElem?_replicate] at hi
    split at hi <;> cases hi
theorem putAll_congr {v v' : Nat → Value} : ∀ (ts : List Nat) (i : Nat) (x : List Value), (∀ j, i ≤ j → j < i + ts.length → v j = v' j) → putAll v i ts x = putAll v' i ts x
  | [], _, _, _ => rfl
  | t :: ts, i, x, h => by
    rw [putAll, putAll, h i (Nat.le_refl _) (by simp), putAll_congr ts (i + 1) _ (fun j h1 h2 => h j (by omega) (by simp at h2 ⊢; omega))]
/-- The law where each operation's value is known; what was there below block B stays. -/
theorem wp_region_vals {id : Nat} {l : List Oper} {x : List Value} {d : List Deferred} {w : World} (hm : P.follows .mixedOrders = true) (B n : Nat) (hn : x.length = n) (dsts : List Nat) (vs : List Value) (hok : factsOk l dsts n = true)
    (hsteps : StepsFrom P l (Below B) n x d w.drew dsts (fun i u _ => u = vs.getD i undef) 0 l)
    (hend : ∀ (w' : World), Below B w.drew w' → Q .normal ⟨(putAll (fun i => vs.getD i undef) 0 dsts x).toArray, d⟩ w') :
    (Code.region id l.toArray true).wp P Q ⟨x.toArray, d⟩ w := by
  refine wp_region_facts hm (Below B) (Below.refl B) (fun _ _ _ h k => h.trans k) n hn dsts _ hok (fun _ _ _ _ h _ => h) hsteps fun v w' hb hv => ?_
  have hdl : dsts.length = l.length := by
    simp only [factsOk, Bool.and_eq_true, decide_eq_true_eq] at hok
    have := congrArg List.length hok.1.1.1
    simpa using this.symm
  rw [putAll_congr (v' := fun i => vs.getD i undef) dsts 0 x (fun j _ hj => hv j (by omega))]
  exact hend w' hb
end

/-! ### a relation: nothing that was there at the start is touched, and no cell of what is new is written -/
/-- Rows of just m cells may get a mark behind their last cell. -/
structure Kept (B m : Nat) (w w' : World) : Prop where
  below : Below B w w'
  cells : ∀ (k : Nat) C t fr, w.heap[k]? = some (.cells C t fr) → ∃ fr', w'.heap[k]? = some (.cells C t fr') ∧ (fr' = fr ∨ C.size = m)
theorem Kept.refl (B m : Nat) (w : World) : Kept B m w w := ⟨Below.refl _ _, fun k C t fr h => ⟨fr, h, .inl rfl⟩⟩
theorem Kept.trans {B m : Nat} {a b c : World} (h : Kept B m a b) (k : Kept B m b c) : Kept B m a c :=
  ⟨h.below.trans k.below, fun i C t fr hi => by
    obtain ⟨fr1, h1, e1⟩ := h.cells i C t fr hi
    obtain ⟨fr2, h2, e2⟩ := k.cells i C t fr1 h1
    refine ⟨fr2, h2, ?_⟩
    rcases e1 with rfl | e1
    · exact e2
    · exact .inr e1⟩
theorem Kept.of_below {B m : Nat} {w w' : World} (hB : B ≤ w.heap.size) (h : Below w.heap.size w w') : Kept B m w w' :=
  ⟨h.mono hB, fun k C t fr hk => ⟨fr, by
    rw [h.block k]
    · exact hk
    · exact (Array.getElem?_eq_some_iff.1 hk).1, .inl rfl⟩⟩
theorem Kept.size {B m : Nat} {w w' : World} (h : Kept B m w w') : w.heap.size ≤ w'.heap.size := h.below.size
theorem Kept.cell {B m : Nat} {w w' : World} (h : Kept B m w w') {p : Addr} {v : Value} (hp : w.cell? p = some v) : w'.cell? p = some v := by
  unfold World.cell? at hp ⊢
  cases hk : w.heap[p.block]? with
  | none => rw [hk] at hp; cases hp
  | some o =>
    rw [hk] at hp
    cases o with
    | cells C t fr =>
      obtain ⟨fr', h', _⟩ := h.cells _ C t fr hk
      rw [h']
      exact hp
    | _ => cases hp
theorem Bys.kept {B m : Nat} {w w' : World} {a : Option Addr} {len : Nat} {zs : List Int} (h : Bys w w.heap.size a len zs) (hk : Kept B m w w') : Bys w' w'.heap.size a len zs :=
  ⟨h.1, h.2.1, fun hl => by
    obtain ⟨b, off, e, hb, hc⟩ := h.2.2 hl
    exact ⟨b, off, e, Nat.lt_of_lt_of_le hb hk.size, fun i hi => hk.cell (hc i hi)⟩⟩
theorem Cel.kept {B m : Nat} {w w' : World} {a : Option Addr} {len : Nat} {vs : List Value} (h : Cel w w.heap.size a len vs) (hk : Kept B m w w') : Cel w' w'.heap.size a len vs :=
  ⟨h.1, fun hl => by
    obtain ⟨b, off, e, hb, hc⟩ := h.2 hl
    refine ⟨b, off, e, Nat.lt_of_lt_of_le hb hk.size, fun i hi => ?_⟩
    have := hc i hi
    have hi' : i < vs.length := by have := h.1; omega
    rw [List.getElem?_eq_getElem hi'] at this ⊢
    exact hk.cell this⟩
/-- A row of the call's own that is longer than m. -/
theorem own_kept {B m : Nat} {w w' : World} {base n : Nat} {e : TypeId} {v : Value} {xs : List Value} (h : w.ownsRow base e 1 v n xs) (hk : Kept B m w w') (hm : m < n) : w'.ownsRow base e 1 v n xs := by
  obtain ⟨hl, ⟨hv, e0⟩ | ⟨g, cap, cur, hv, hg, hh, hc, hx, hs, ht⟩⟩ := h
  · omega
  · obtain ⟨fr', h', e'⟩ := hk.cells _ _ _ _ hh
    rcases e' with rfl | e'
    · exact ⟨hl, .inr ⟨g, cap, cur, hv, hg, h', hc, hx, hs, ht⟩⟩
    · omega
/-- A mark behind a row of the call's own. -/
theorem Kept.freeze {B m : Nat} {w : World} {g o n : Nat} {C : Array Value} {t : TypeId} {fr : Nat × Nat} (hg : B ≤ g) (hC : w.heap[g]? = some (.cells C t fr)) (hm : C.size = m) : Kept B m w (w.freeze ⟨g, o, none⟩ n) := by
  unfold World.freeze
  split
  · exact Kept.refl _ _ _
  · refine ⟨⟨rfl, rfl, rfl, by simp, fun k hk => ?_⟩, fun k C' t' fr' hk => ?_⟩
    · simp only [Array.getElem?_modify]
      rw [if_neg (by omega)]
    · simp only [Array.getElem?_modify]
      by_cases hgk : g = k
      · subst hgk
        rw [if_pos rfl, hk]
        rw [hC] at hk
        injection hk with hk
        injection hk with h1 h2 h3
        subst h1; subst h2; subst h3
        obtain ⟨lo, hi⟩ := fr
        exact ⟨_, rfl, .inr hm⟩
      · rw [if_neg hgk]
        exact ⟨fr', hk, .inl rfl⟩
/-- A row of the call's own that is converted to its own type: it stays as it is, but for a mark. -/
theorem run_convert_own {P : Program} (w : World) (t e : TypeId) (g n c : Nat) (C : Array Value) (fr : Nat × Nat) (hg : w.heap[g]? = some (.cells C e fr)) (ht : P.underlying t = some (.slice e)) (he : P.underlying e = some (.int .u8)) :
    (convert t t (.slice (some ⟨g, 0, none⟩) n c)).run P w = .ok (.slice (some ⟨g, 0, none⟩) n c) (w.freeze ⟨g, C.size, none⟩ 1) := by
  have hsh : w.shape? g = some (e, C.size) := by
    unfold World.shape?
    rw [hg]
  simp [convert, run_underlying ht, run_underlying he, markStringish, hsh]
end Go.Proofs.YtkhfmgifpppcmaaDoor
