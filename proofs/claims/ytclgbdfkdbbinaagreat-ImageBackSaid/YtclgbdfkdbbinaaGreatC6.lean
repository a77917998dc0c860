/-
  What is proved here: words and contracts, a part of those that the statement rests on (C6).
  Conditions: none but that the arguments are values of their types.
-/
import Derived.Test.YtclgbdfkdbbinaaGreatC5
import Derived.Test.YtclgbdfkdbbinaaGreatC3
import Derived.Test.YtclgbdfkdbbinaaGreatC4
import Derived.Test.YtclgbdfkdbbinaaGreatC1
set_option linter.unusedVariables false
set_option linter.unusedSimpArgs false
set_option maxRecDepth 100000
set_option maxHeartbeats 12800000
namespace Go.Proofs.YtclgbdfkdbbinaaGreat
open Go.RowKit
def invOk (l:List Oper) (dsts:List Nat) (n:Nat):Bool:=
 decide (l.length=dsts.length) && decide dsts.Nodup &&
 ((List.range l.length).all fun i=>match l[i]?,dsts[i]? with
   | some o,some t=>o.guard.isNone && ((decide (o.dst=some t) && decide (t<n)) || (o.dst.isNone && decide (n≤t)))
   | _,_=>false) &&
 (List.range l.length).all fun i=>match l[i]? with
  | some o=>o.after.toList.all fun e=>!Region.binds .any e || decide (e.on<i)
  | none=>true
def upd (L:Nat→Bool) (i:Nat):Nat→Bool:=fun j=>if j=i then true else L j
theorem upd_same (L:Nat→Bool) (i:Nat):upd L i i=true:=by simp [upd]
theorem upd_other (L:Nat→Bool) {i j:Nat} (h:j≠i):upd L i j=L j:=by simp [upd,h]
theorem putAll_get' (v:Nat→Value):∀(ts:List Nat) (i:Nat) (x:List Value),ts.Nodup→
 (putAll v i ts x).length=x.length∧(∀j t,ts[j]?=some t→t<x.length→(putAll v i ts x)[t]?=some (v (i+j)))∧∀t,t ∉ ts→(putAll v i ts x)[t]?=x[t]?
 | [],i,x,_=>⟨rfl,fun j t h=>by simp at h,fun t _=>rfl⟩
 | s :: ts,i,x,hn=>by
   have hn':=List.nodup_cons.1 hn;obtain ⟨h1,h2,h3⟩:=putAll_get' v ts (i+1) (x.set s (v i)) hn'.2;refine ⟨by rw [putAll,h1,List.length_set],fun j t hj ht=>?_,fun t ht=>?_⟩
   ·cases j with
    | zero=>
      simp only [List.getElem?_cons_zero,Option.some.injEq] at hj;subst hj;rw [putAll,h3 s hn'.1,List.getElem?_set_self ht,Nat.add_zero]
    | succ j=>
      rw [List.getElem?_cons_succ] at hj;rw [putAll,h2 j t hj (by rw [List.length_set];exact ht),show i+1+j=i+(j+1) from by omega]
   ·rw [putAll,h3 t (fun h=>ht (by simp [h])),List.getElem?_set_ne (fun e=>ht (by simp [e]))]
def StepsInv (P:Program) (J:(Nat→Bool)→World→Prop) (n:Nat) (x:List Value) (d:List Deferred) (dsts:List Nat) (vs:List Value):Nat→List Oper→Prop
 | _,[]=>True
 | i,o :: l=>(∀(L:Nat→Bool) (y:Nat→Value) (w:World),J L w→L i=false→(∀t,t ∉ dsts→y t=x.getD t undef)→(∀j,j∈preds o→L j=true∧(dsts.getD j 0<n→y (dsts.getD j 0)=vs.getD j undef))→
  StepFact P o ⟨frameOf n y,d⟩ w fun u w'=>(dsts.getD i 0<n→u=vs.getD i undef)∧J (upd L i) w')∧StepsInv P J n x d dsts vs (i+1) l
theorem StepsInv.get {P:Program} {J:(Nat→Bool)→World→Prop} {n:Nat} {x:List Value} {d:List Deferred} {dsts:List Nat} {vs:List Value} :
 ∀{l:List Oper} {k:Nat},StepsInv P J n x d dsts vs k l→∀i o,l[i]?=some o→
  ∀(L:Nat→Bool) (y:Nat→Value) (w:World),J L w→L (k+i)=false→(∀t,t ∉ dsts→y t=x.getD t undef)→(∀j,j∈preds o→L j=true∧(dsts.getD j 0<n→y (dsts.getD j 0)=vs.getD j undef))→
   StepFact P o ⟨frameOf n y,d⟩ w fun u w'=>(dsts.getD (k+i) 0<n→u=vs.getD (k+i) undef)∧J (upd L (k+i)) w'
 | [],_,_,_,_,h=>by simp at h
 | o :: l,k,hs,0,o',h=>by
   simp only [List.getElem?_cons_zero,Option.some.injEq] at h;subst h;exact hs.1
 | o :: l,k,hs,i+1,o',h=>by
   rw [List.getElem?_cons_succ] at h;have:=hs.2.get i o' h
   rwa [show k+1+i=k+(i+1) from by omega] at this
section
variable {P:Program} {Q:Exit→Act→World→Prop}
theorem wpAny_inv {l:List Oper} {x:List Value} {d:List Deferred} (dsts:List Nat) (vs:List Value) (J:(Nat→Bool)→World→Prop)
 (hJ:∀L L' w,(∀i,i<l.length→L i=L' i)→J L w→J L' w)
 (hok:invOk l dsts x.length=true) (hsteps:StepsInv P J x.length x d dsts vs 0 l)
 (hend:∀(L:Nat→Bool) (w:World),J L w→(∀i,i<l.length→L i=true)→Q .normal ⟨(putAll (fun i=>vs.getD i undef) 0 dsts x).toArray,d⟩ w) :
 ∀(fuel:Nat) (listed:Array Bool) (y:Nat→Value) (w:World),left listed≤fuel→listed.size=l.length→(∀t,t ∉ dsts→y t=x.getD t undef)→
  (∀i,listed[i]?=some true→dsts.getD i 0<x.length→y (dsts.getD i 0)=vs.getD i undef)→J (fun i=>listed.getD i false) w→wpAny P .any l.toArray Q fuel listed ⟨frameOf x.length y,d⟩ w:=by
 simp only [invOk,Bool.and_eq_true,decide_eq_true_eq,List.all_eq_true,List.mem_range] at hok;obtain ⟨⟨⟨hdl,hnd⟩,hfm⟩,hord⟩:=hok;have fin:∀(listed:Array Bool) (y:Nat→Value) (w:World),listed.size=l.length→(∀t,t ∉ dsts→y t=x.getD t undef)→
  (∀i,listed[i]?=some true→dsts.getD i 0<x.length→y (dsts.getD i 0)=vs.getD i undef)→J (fun i=>listed.getD i false) w→(∀i,i<l.length→listed[i]?=some true)→Q .normal ⟨frameOf x.length y,d⟩ w:=by
  intro listed y w hsz hy hF hb hall;have h:=hend _ w hb (fun i hi=>by rw [Array.getD_eq_getD_getElem?,hall i hi];rfl);have e:(putAll (fun i=>vs.getD i undef) 0 dsts x).toArray=frameOf x.length y:=by
   obtain ⟨h1,h2,h3⟩:=putAll_get' (fun i=>vs.getD i undef) dsts 0 x hnd;apply Array.ext_getElem?
   intro t;rw [List.getElem?_toArray];by_cases ht:t<x.length
   ·rw [frameOf_get _ _ _ ht];by_cases hm:t∈dsts
    ·obtain ⟨j,hj,hjt⟩:=List.getElem_of_mem hm;have hj':dsts[j]?=some t:=by rw [List.getElem?_eq_getElem hj,hjt]
     have hjd:dsts.getD j 0=t:=by rw [List.getD_eq_getElem?_getD,hj'];rfl
     rw [h2 j t hj' ht,Nat.zero_add];have:=hF j (hall j (by omega)) (by rw [hjd];exact ht);rw [hjd] at this;rw [this]
    ·rw [h3 t hm,hy t hm,List.getD_eq_getElem?_getD,List.getElem?_eq_getElem ht];rfl
   ·rw [List.getElem?_eq_none (by omega),Array.getElem?_eq_none (by rw [frameOf_size];omega)]
  rw [e] at h;exact h
 intro fuel;induction fuel with
 | zero=>
   intro listed y w hf hsz hy hF hb;have hall:∀i,i<l.length→listed[i]?=some true:=fun i hi=>by
    have:=left_zero listed.toList (by unfold left at hf;omega) i (by rw [Array.length_toList,hsz];exact hi);simpa using this
   refine ⟨?_,fin listed y w hsz hy hF hb hall⟩;apply List.eq_nil_iff_forall_not_mem.2
   intro j hj;obtain ⟨h0,o,ho,_⟩:=mem_ready.1 hj;have hjl:j<l.length:=by
    have:=(Array.getElem?_eq_some_iff.1 ho).1;simpa using this
   rw [Array.getD_eq_getD_getElem?,hall j hjl] at h0;cases h0
 | succ fuel ih=>
   intro listed y w hf hsz hy hF hb;refine ⟨fun hr=>?_,fun i hi=>?_⟩
   ·refine fin listed y w hsz hy hF hb ?_;intro i;induction i using Nat.strongRecOn with
    | ind i ihi=>
      intro hi;cases hli:listed[i]? with
      | none=>rw [Array.getElem?_eq_none_iff] at hli;omega
      | some b=>
        cases b with
        | true=>rfl
        | false=>
          exfalso
          have:i∈Region.ready .any l.toArray listed:=by
           refine mem_ready.2 ⟨by rw [Array.getD_eq_getD_getElem?,hli];rfl,l[i],by rw [List.getElem?_toArray,List.getElem?_eq_getElem hi],fun e he hbe=>?_⟩;have h1:=hord i hi;rw [List.getElem?_eq_getElem hi] at h1;have h2:=List.all_eq_true.1 h1 e (by simpa using he);rw [hbe] at h2;have h3:e.on<i:=by simpa using h2
           rw [Array.getD_eq_getD_getElem?,ihi e.on h3 (by omega)];rfl
          rw [hr] at this;cases this
   ·obtain ⟨h0,o,ho,hall⟩:=mem_ready.1 hi;have ho':l[i]?=some o:=by simpa using ho
    have hil:i<l.length:=(List.getElem?_eq_some_iff.1 ho').1;have hli:listed[i]?=some false:=by
     cases hli:listed[i]? with
     | none=>rw [Array.getElem?_eq_none_iff] at hli;omega
     | some b=>rw [Array.getD_eq_getD_getElem?,hli] at h0;rw [show b=false from h0]
    have hst:=hsteps.get i o ho' (fun i=>listed.getD i false) y w hb (by rw [Nat.zero_add];show listed.getD i false=false;rw [Array.getD_eq_getD_getElem?,hli];rfl) hy (fun j hj=>by
     unfold preds at hj;obtain ⟨e,he,rfl⟩:=List.mem_map.1 hj;obtain ⟨he1,he2⟩:=List.mem_filter.1 he;have hl:=hall e (by simpa using he1) he2;refine ⟨hl,hF e.on ?_⟩;cases hle:listed[e.on]? with
     | none=>rw [Array.getD_eq_getD_getElem?,hle] at hl;cases hl
     | some b=>rw [Array.getD_eq_getD_getElem?,hle] at hl;rw [show b=true from hl])
    rw [Nat.zero_add] at hst;obtain ⟨t,ht⟩:∃t,dsts[i]?=some t:=⟨dsts[i]'(by omega),List.getElem?_eq_getElem (by omega)⟩
    have htd:dsts.getD i 0=t:=by rw [List.getD_eq_getElem?_getD,ht];rfl
    have hfi:=hfm i hil;rw [ho',ht] at hfi;simp only [Bool.and_eq_true,Bool.or_eq_true,decide_eq_true_eq] at hfi;obtain ⟨hgd,hfi⟩:=hfi;have after:∀u w',((dsts.getD i 0<x.length→u=vs.getD i undef)∧J (upd (fun i=>listed.getD i false) i) w')→wpAny P .any l.toArray Q fuel (listed.setIfInBounds i true) (Act.put ⟨frameOf x.length y,d⟩ o.dst u) w':=by
     rintro u w' ⟨hu,hJw⟩;rw [htd] at hu;have ea:(Act.put ⟨frameOf x.length y,d⟩ o.dst u)=⟨frameOf x.length (fun s=>if s=t then u else y s),d⟩:=by
      rcases hfi with ⟨h1,h2⟩ | ⟨h1,h2⟩
      ·rw [h1];simp only [Act.put,frameOf_set]
      ·have:o.dst=none:=by simpa using h1
       rw [this];simp only [Act.put]
       congr 1
       apply Array.ext_getElem?
       intro s;by_cases hs:s<x.length
       ·rw [frameOf_get _ _ _ hs,frameOf_get _ _ _ hs,if_neg (by omega)]
       ·rw [Array.getElem?_eq_none (by rw [frameOf_size];omega),Array.getElem?_eq_none (by rw [frameOf_size];omega)]
     rw [ea];have hlf:=left_set listed.toList i (by simpa using hli);refine ih _ _ _ ?_ (by rw [Array.size_setIfInBounds,hsz]) ?_ ?_ (hJ _ _ _ ?_ hJw)
     ·unfold left at hf⊢;rw [Array.toList_setIfInBounds];omega
     ·intro s hs;have hst:s≠t:=fun e=>hs (e▸List.mem_of_getElem? ht);simp only [hst,if_false];exact hy s hs
     ·intro j hj hjt;by_cases hji:j=i
      ·subst hji;rw [htd] at hjt⊢;simpa using hu hjt
      ·rw [Array.getElem?_setIfInBounds_ne (Ne.symm hji)] at hj;have hjl:j<dsts.length:=by
        have:=(Array.getElem?_eq_some_iff.1 hj).1;omega
       have hne:dsts.getD j 0≠t:=by
        rw [List.getD_eq_getElem?_getD,List.getElem?_eq_getElem hjl];intro e;have hit:dsts[i]'(by omega)=t:=(List.getElem?_eq_some_iff.1 ht).2;have:=nodup_inj hnd j i hjl (by omega) (show dsts[j]=dsts[i]'(by omega) from by rw [hit];simpa using e);exact hji this
       simp only [hne,if_false];exact hF j hj hjt
     ·intro j hj;by_cases hji:j=i
      ·subst hji;rw [upd_same,Array.getD_eq_getD_getElem?,Array.getElem?_setIfInBounds_self_of_lt (by omega)];rfl
      ·rw [upd_other _ hji,Array.getD_eq_getD_getElem?,Array.getD_eq_getD_getElem?,Array.getElem?_setIfInBounds_ne (Ne.symm hji)]
    unfold wpOp;rw [ho];simp only
    have hw:Region.wanted o (yielded l.toArray (frameOf x.length y))=true:=by
     have:o.guard=none:=by simpa using hgd
     unfold Region.wanted;rw [this]
    rw [if_pos hw];exact .inl (hst _ _ after)
theorem wp_region_inv {id:Nat} {l:List Oper} {x:List Value} {d:List Deferred} {w:World} (hm:P.follows .mixedOrders=true) (n:Nat) (hn:x.length=n) (dsts:List Nat) (vs:List Value) (J:(Nat→Bool)→World→Prop)
 (hJ:∀L L' w,(∀i,i<l.length→L i=L' i)→J L w→J L' w)
 (hok:invOk l dsts n=true) (hst:J (fun _=>false) w.drew) (hsteps:StepsInv P J n x d dsts vs 0 l)
 (hend:∀(L:Nat→Bool) (w':World),J L w'→(∀i,i<l.length→L i=true)→Q .normal ⟨(putAll (fun i=>vs.getD i undef) 0 dsts x).toArray,d⟩ w') :
 (Code.region id l.toArray true).wp P Q ⟨x.toArray,d⟩ w:=by
 subst hn;refine wp_region_any hm ?_;change wpAny P .any l.toArray Q _ _ _ w.drew;rw [frameOf_list x];have hl:∀n,((List.replicate n false).filter (!·)).length=n:=fun n=>by induction n with
  | zero=>rfl
  | succ n ih=>rw [List.replicate_succ];simp
 refine wpAny_inv dsts vs J hJ hok hsteps hend _ _ _ _ ?_ (by simp) (fun t ht=>rfl) ?_ (hJ _ _ _ ?_ hst)
 ·unfold left;rw [Array.toList_replicate,hl];exact Nat.le_refl _
 ·intro i hi;rw [Array.getElem?_replicate] at hi;split at hi<;>cases hi
 ·intro i hi;rw [Array.getD_eq_getD_getElem?,Array.getElem?_replicate];split<;>rfl
end
theorem step_move {P:Program} {o:Oper} {a:Act} {w:World} {post:Value→World→Prop} (x:Operand) (ho:o.op=.move x∨o.op=.assign x) (h:post (a.eval x) w):StepFact P o a w post:=by
 intro K Q hK;have:=hK _ _ h;unfold Oper.wp Oper.upon;rcases ho with ho | ho<;>simpa [execOp,ho,Result.andThen] using this
section
variable {P:Program} {Q:Exit→Act→World→Prop}
end
theorem eval_frame (n:Nat) (y:Nat→Value) (d:List Deferred) {t:Nat} (h:t<n):(⟨frameOf n y,d⟩:Act).eval (.tmp t)=y t:=by
 simp [Act.eval,frameOf_get _ _ _ h]
theorem evA1 {n:Nat} {y:Nat→Value} {a:Nat} {u:Value} (e:y a=u) (h:a<n):∃A:Act,⟨frameOf n y,[]⟩=A∧A.tmps.getD a undef=u:=⟨_,rfl,(eval_frame n y [] h).trans e⟩
theorem evA2 {n:Nat} {y:Nat→Value} {a b:Nat} {u v:Value} (e:y a=u) (f:y b=v) (h:a<n) (g:b<n):∃A:Act,⟨frameOf n y,[]⟩=A∧A.tmps.getD a undef=u∧A.tmps.getD b undef=v:=⟨_,rfl,(eval_frame n y [] h).trans e,(eval_frame n y [] g).trans f⟩
theorem evA3 {n:Nat} {y:Nat→Value} {a b c:Nat} {u v x:Value} (e:y a=u) (f:y b=v) (k:y c=x) (h:a<n) (g:b<n) (i:c<n):∃A:Act,⟨frameOf n y,[]⟩=A∧A.tmps.getD a undef=u∧A.tmps.getD b undef=v∧A.tmps.getD c undef=x:=⟨_,rfl,(eval_frame n y [] h).trans e,(eval_frame n y [] g).trans f,(eval_frame n y [] i).trans k⟩
def StepsWord (P:Program) (ops:List Oper) (J:(Nat→Bool)→World→Prop) (n:Nat) (x:List Value) (d:List Deferred) (dsts:List Nat) (R:World→World→Prop) (F:Nat→Value→World→Prop):Nat→List Oper→Prop
 | _,[]=>True
 | i,o :: l=>(∀(L:Nat→Bool) (y:Nat→Value) (w:World),J L w→L i=false→(∀t,t ∉ dsts→y t=x.getD t undef)→(∀j,j∈preds o→L j=true∧(dsts.getD j 0<n→F j (y (dsts.getD j 0)) w))→
  (∀k q,ops[k]?=some q→L k=true→∀j,j∈preds q→L j=true)→(∀k,k<ops.length→L k=false→dsts.getD k 0<n→y (dsts.getD k 0)=x.getD (dsts.getD k 0) undef)→
  StepFact P o ⟨frameOf n y,d⟩ w fun u w'=>R w w'∧(dsts.getD i 0<n→F i u w')∧J (upd L i) w')∧StepsWord P ops J n x d dsts R F (i+1) l
theorem StepsWord.get {P:Program} {ops:List Oper} {J:(Nat→Bool)→World→Prop} {n:Nat} {x:List Value} {d:List Deferred} {dsts:List Nat} {R:World→World→Prop} {F:Nat→Value→World→Prop} :
 ∀{l:List Oper} {k:Nat},StepsWord P ops J n x d dsts R F k l→∀i o,l[i]?=some o→
  ∀(L:Nat→Bool) (y:Nat→Value) (w:World),J L w→L (k+i)=false→(∀t,t ∉ dsts→y t=x.getD t undef)→(∀j,j∈preds o→L j=true∧(dsts.getD j 0<n→F j (y (dsts.getD j 0)) w))→
   (∀k q,ops[k]?=some q→L k=true→∀j,j∈preds q→L j=true)→(∀k,k<ops.length→L k=false→dsts.getD k 0<n→y (dsts.getD k 0)=x.getD (dsts.getD k 0) undef)→
   StepFact P o ⟨frameOf n y,d⟩ w fun u w'=>R w w'∧(dsts.getD (k+i) 0<n→F (k+i) u w')∧J (upd L (k+i)) w'
 | [],_,_,_,_,h=>by simp at h
 | o :: l,k,hs,0,o',h=>by
   simp only [List.getElem?_cons_zero,Option.some.injEq] at h;subst h;exact hs.1
 | o :: l,k,hs,i+1,o',h=>by
   rw [List.getElem?_cons_succ] at h;have:=hs.2.get i o' h
   rwa [show k+1+i=k+(i+1) from by omega] at this
section
variable {P:Program} {Q:Exit→Act→World→Prop}
theorem wpAny_word {l:List Oper} {x:List Value} {d:List Deferred} (dsts:List Nat) (R:World→World→Prop) (F:Nat→Value→World→Prop) (J:(Nat→Bool)→World→Prop)
 (hmono:∀i u w w',F i u w→R w w'→F i u w') (hJ:∀L L' w,(∀i,i<l.length→L i=L' i)→J L w→J L' w)
 (hok:invOk l dsts x.length=true) (hsteps:StepsWord P l J x.length x d dsts R F 0 l)
 (hend:∀(v:Nat→Value) (L:Nat→Bool) (w:World),J L w→(∀i,i<l.length→L i=true)→(∀i,i<l.length→dsts.getD i 0<x.length→F i (v i) w)→Q .normal ⟨(putAll v 0 dsts x).toArray,d⟩ w) :
 ∀(fuel:Nat) (listed:Array Bool) (y:Nat→Value) (w:World),left listed≤fuel→listed.size=l.length→(∀t,t ∉ dsts→y t=x.getD t undef)→
  (∀i,listed[i]?=some true→dsts.getD i 0<x.length→F i (y (dsts.getD i 0)) w)→J (fun i=>listed.getD i false) w→
  (∀k q,l[k]?=some q→listed.getD k false=true→∀j,j∈preds q→listed.getD j false=true)→(∀k,k<l.length→listed.getD k false=false→dsts.getD k 0<x.length→y (dsts.getD k 0)=x.getD (dsts.getD k 0) undef)→wpAny P .any l.toArray Q fuel listed ⟨frameOf x.length y,d⟩ w:=by
 simp only [invOk,Bool.and_eq_true,decide_eq_true_eq,List.all_eq_true,List.mem_range] at hok;obtain ⟨⟨⟨hdl,hnd⟩,hfm⟩,hord⟩:=hok;have fin:∀(listed:Array Bool) (y:Nat→Value) (w:World),listed.size=l.length→(∀t,t ∉ dsts→y t=x.getD t undef)→
  (∀i,listed[i]?=some true→dsts.getD i 0<x.length→F i (y (dsts.getD i 0)) w)→J (fun i=>listed.getD i false) w→(∀i,i<l.length→listed[i]?=some true)→Q .normal ⟨frameOf x.length y,d⟩ w:=by
  intro listed y w hsz hy hF hb hall;have h:=hend (fun i=>y (dsts.getD i 0)) _ w hb (fun i hi=>by rw [Array.getD_eq_getD_getElem?,hall i hi];rfl) (fun i hi hn=>hF i (hall i hi) hn);have e:(putAll (fun i=>y (dsts.getD i 0)) 0 dsts x).toArray=frameOf x.length y:=by
   obtain ⟨h1,h2,h3⟩:=putAll_get' (fun i=>y (dsts.getD i 0)) dsts 0 x hnd;apply Array.ext_getElem?
   intro t;rw [List.getElem?_toArray];by_cases ht:t<x.length
   ·rw [frameOf_get _ _ _ ht];by_cases hm:t∈dsts
    ·obtain ⟨j,hj,hjt⟩:=List.getElem_of_mem hm;have hj':dsts[j]?=some t:=by rw [List.getElem?_eq_getElem hj,hjt]
     have hjd:dsts.getD j 0=t:=by rw [List.getD_eq_getElem?_getD,hj'];rfl
     rw [h2 j t hj' ht,Nat.zero_add];simp only [hjd]
    ·rw [h3 t hm,hy t hm,List.getD_eq_getElem?_getD,List.getElem?_eq_getElem ht];rfl
   ·rw [List.getElem?_eq_none (by omega),Array.getElem?_eq_none (by rw [frameOf_size];omega)]
  rw [e] at h;exact h
 intro fuel;induction fuel with
 | zero=>
   intro listed y w hf hsz hy hF hb hcl hun;have hall:∀i,i<l.length→listed[i]?=some true:=fun i hi=>by
    have:=left_zero listed.toList (by unfold left at hf;omega) i (by rw [Array.length_toList,hsz];exact hi);simpa using this
   refine ⟨?_,fin listed y w hsz hy hF hb hall⟩;apply List.eq_nil_iff_forall_not_mem.2
   intro j hj;obtain ⟨h0,o,ho,_⟩:=mem_ready.1 hj;have hjl:j<l.length:=by
    have:=(Array.getElem?_eq_some_iff.1 ho).1;simpa using this
   rw [Array.getD_eq_getD_getElem?,hall j hjl] at h0;cases h0
 | succ fuel ih=>
   intro listed y w hf hsz hy hF hb hcl hun;refine ⟨fun hr=>?_,fun i hi=>?_⟩
   ·refine fin listed y w hsz hy hF hb ?_;intro i;induction i using Nat.strongRecOn with
    | ind i ihi=>
      intro hi;cases hli:listed[i]? with
      | none=>rw [Array.getElem?_eq_none_iff] at hli;omega
      | some b=>
        cases b with
        | true=>rfl
        | false=>
          exfalso
          have:i∈Region.ready .any l.toArray listed:=by
           refine mem_ready.2 ⟨by rw [Array.getD_eq_getD_getElem?,hli];rfl,l[i],by rw [List.getElem?_toArray,List.getElem?_eq_getElem hi],fun e he hbe=>?_⟩;have h1:=hord i hi;rw [List.getElem?_eq_getElem hi] at h1;have h2:=List.all_eq_true.1 h1 e (by simpa using he);rw [hbe] at h2;have h3:e.on<i:=by simpa using h2
           rw [Array.getD_eq_getD_getElem?,ihi e.on h3 (by omega)];rfl
          rw [hr] at this;cases this
   ·obtain ⟨h0,o,ho,hall⟩:=mem_ready.1 hi;have ho':l[i]?=some o:=by simpa using ho
    have hil:i<l.length:=(List.getElem?_eq_some_iff.1 ho').1;have hli:listed[i]?=some false:=by
     cases hli:listed[i]? with
     | none=>rw [Array.getElem?_eq_none_iff] at hli;omega
     | some b=>rw [Array.getD_eq_getD_getElem?,hli] at h0;rw [show b=false from h0]
    have hst:=hsteps.get i o ho' (fun i=>listed.getD i false) y w hb (by rw [Nat.zero_add];show listed.getD i false=false;rw [Array.getD_eq_getD_getElem?,hli];rfl) hy (fun j hj=>by
     unfold preds at hj;obtain ⟨e,he,rfl⟩:=List.mem_map.1 hj;obtain ⟨he1,he2⟩:=List.mem_filter.1 he;have hl:=hall e (by simpa using he1) he2;refine ⟨hl,hF e.on ?_⟩;cases hle:listed[e.on]? with
     | none=>rw [Array.getD_eq_getD_getElem?,hle] at hl;cases hl
     | some b=>rw [Array.getD_eq_getD_getElem?,hle] at hl;rw [show b=true from hl]) hcl hun
    rw [Nat.zero_add] at hst;obtain ⟨t,ht⟩:∃t,dsts[i]?=some t:=⟨dsts[i]'(by omega),List.getElem?_eq_getElem (by omega)⟩
    have htd:dsts.getD i 0=t:=by rw [List.getD_eq_getElem?_getD,ht];rfl
    have hfi:=hfm i hil;rw [ho',ht] at hfi;simp only [Bool.and_eq_true,Bool.or_eq_true,decide_eq_true_eq] at hfi;obtain ⟨hgd,hfi⟩:=hfi;have after:∀u w',(R w w'∧(dsts.getD i 0<x.length→F i u w')∧J (upd (fun i=>listed.getD i false) i) w')→wpAny P .any l.toArray Q fuel (listed.setIfInBounds i true) (Act.put ⟨frameOf x.length y,d⟩ o.dst u) w':=by
     rintro u w' ⟨hR,hu,hJw⟩;rw [htd] at hu;have ea:(Act.put ⟨frameOf x.length y,d⟩ o.dst u)=⟨frameOf x.length (fun s=>if s=t then u else y s),d⟩:=by
      rcases hfi with ⟨h1,h2⟩ | ⟨h1,h2⟩
      ·rw [h1];simp only [Act.put,frameOf_set]
      ·have:o.dst=none:=by simpa using h1
       rw [this];simp only [Act.put]
       congr 1
       apply Array.ext_getElem?
       intro s;by_cases hs:s<x.length
       ·rw [frameOf_get _ _ _ hs,frameOf_get _ _ _ hs,if_neg (by omega)]
       ·rw [Array.getElem?_eq_none (by rw [frameOf_size];omega),Array.getElem?_eq_none (by rw [frameOf_size];omega)]
     rw [ea];have hlf:=left_set listed.toList i (by simpa using hli);have hup:∀j,(listed.setIfInBounds i true).getD j false=if j=i then true else listed.getD j false:=by
      intro j;by_cases hji:j=i
      ·subst hji;rw [if_pos rfl,Array.getD_eq_getD_getElem?,Array.getElem?_setIfInBounds_self_of_lt (by omega)];rfl
      ·rw [if_neg hji,Array.getD_eq_getD_getElem?,Array.getD_eq_getD_getElem?,Array.getElem?_setIfInBounds_ne (Ne.symm hji)]
     refine ih _ _ _ ?_ (by rw [Array.size_setIfInBounds,hsz]) ?_ ?_ (hJ _ _ _ ?_ hJw) ?_ ?_
     ·unfold left at hf⊢;rw [Array.toList_setIfInBounds];omega
     ·intro s hs;have hst:s≠t:=fun e=>hs (e▸List.mem_of_getElem? ht);simp only [hst,if_false];exact hy s hs
     ·intro j hj hjt;by_cases hji:j=i
      ·subst hji;rw [htd] at hjt⊢;simpa using hu hjt
      ·rw [Array.getElem?_setIfInBounds_ne (Ne.symm hji)] at hj;have hjl:j<dsts.length:=by
        have:=(Array.getElem?_eq_some_iff.1 hj).1;omega
       have hne:dsts.getD j 0≠t:=by
        rw [List.getD_eq_getElem?_getD,List.getElem?_eq_getElem hjl];intro e;have hit:dsts[i]'(by omega)=t:=(List.getElem?_eq_some_iff.1 ht).2;have:=nodup_inj hnd j i hjl (by omega) (show dsts[j]=dsts[i]'(by omega) from by rw [hit];simpa using e);exact hji this
       simp only [hne,if_false];exact hmono _ _ _ _ (hF j hj hjt) hR
     ·intro j hj;by_cases hji:j=i
      ·subst hji;rw [upd_same,Array.getD_eq_getD_getElem?,Array.getElem?_setIfInBounds_self_of_lt (by omega)];rfl
      ·rw [upd_other _ hji,Array.getD_eq_getD_getElem?,Array.getD_eq_getD_getElem?,Array.getElem?_setIfInBounds_ne (Ne.symm hji)]
     ·intro k q hk hLk j hj;rw [hup] at hLk⊢;by_cases hji:j=i
      ·rw [if_pos hji]
      ·rw [if_neg hji];by_cases hki:k=i
       ·subst hki;rw [ho'] at hk;injection hk with hk;subst hk;unfold preds at hj;obtain ⟨e,he,rfl⟩:=List.mem_map.1 hj;obtain ⟨he1,he2⟩:=List.mem_filter.1 he;have hl:=hall e (by simpa using he1) he2;cases hle:listed[e.on]? with
        | none=>rw [Array.getD_eq_getD_getElem?,hle] at hl;cases hl
        | some b=>rw [Array.getD_eq_getD_getElem?,hle] at hl⊢;exact hl
       ·rw [if_neg hki] at hLk;exact hcl k q hk hLk j hj
     ·intro k hk hLk hkn;rw [hup] at hLk;by_cases hki:k=i
      ·rw [if_pos hki] at hLk;cases hLk
      ·rw [if_neg hki] at hLk;have hne:dsts.getD k 0≠t:=by
        rw [List.getD_eq_getElem?_getD,List.getElem?_eq_getElem (by omega)];intro e;have hit:dsts[i]'(by omega)=t:=(List.getElem?_eq_some_iff.1 ht).2;have:=nodup_inj hnd k i (by omega) (by omega) (show dsts[k]'(by omega)=dsts[i]'(by omega) from by rw [hit];simpa using e);exact hki this
       simp only [hne,if_false];exact hun k hk hLk hkn
    unfold wpOp;rw [ho];simp only
    have hw:Region.wanted o (yielded l.toArray (frameOf x.length y))=true:=by
     have:o.guard=none:=by simpa using hgd
     unfold Region.wanted;rw [this]
    rw [if_pos hw];exact .inl (hst _ _ after)
theorem wp_region_word {id:Nat} {l:List Oper} {x:List Value} {d:List Deferred} {w:World} (hm:P.follows .mixedOrders=true) (n:Nat) (hn:x.length=n) (dsts:List Nat) (R:World→World→Prop) (F:Nat→Value→World→Prop) (J:(Nat→Bool)→World→Prop)
 (hmono:∀i u w w',F i u w→R w w'→F i u w') (hJ:∀L L' w,(∀i,i<l.length→L i=L' i)→J L w→J L' w)
 (hok:invOk l dsts n=true) (hst:J (fun _=>false) w.drew) (hsteps:StepsWord P l J n x d dsts R F 0 l)
 (hend:∀(v:Nat→Value) (L:Nat→Bool) (w':World),J L w'→(∀i,i<l.length→L i=true)→(∀i,i<l.length→dsts.getD i 0<n→F i (v i) w')→Q .normal ⟨(putAll v 0 dsts x).toArray,d⟩ w') :
 (Code.region id l.toArray true).wp P Q ⟨x.toArray,d⟩ w:=by
 subst hn;refine wp_region_any hm ?_;change wpAny P .any l.toArray Q _ _ _ w.drew;rw [frameOf_list x];have hl:∀n,((List.replicate n false).filter (!·)).length=n:=fun n=>by induction n with
  | zero=>rfl
  | succ n ih=>rw [List.replicate_succ];simp
 refine wpAny_word dsts R F J hmono hJ hok hsteps hend _ _ _ _ ?_ (by simp) (fun t ht=>rfl) ?_ (hJ _ _ _ ?_ hst) (fun k q hk hLk=>?_) (fun k hk _ _=>rfl)
 ·unfold left;rw [Array.toList_replicate,hl];exact Nat.le_refl _
 ·intro i hi;rw [Array.getElem?_replicate] at hi;split at hi<;>cases hi
 ·intro i hi;rw [Array.getD_eq_getD_getElem?,Array.getElem?_replicate];split<;>rfl
 ·rw [Array.getD_eq_getD_getElem?,Array.getElem?_replicate] at hLk;split at hLk<;>cases hLk
end
structure Jw (i j:Nat) (P0 P1 P2:World→Prop) (L:Nat→Bool) (w:World):Prop where
 p0:L i=false→L j=false→P0 w
 p1:L i=true→L j=false→P1 w
 p2:L j=true→P2 w
theorem Jw.congr {i j m:Nat} {P0 P1 P2:World→Prop} (hi:i<m) (hj:j<m):∀L L' w,(∀k,k<m→L k=L' k)→Jw i j P0 P1 P2 L w→Jw i j P0 P1 P2 L' w:=
 fun L L' w h hJ=>⟨by rw [←h i hi,←h j hj];exact hJ.p0,by rw [←h i hi,←h j hj];exact hJ.p1,by rw [←h j hj];exact hJ.p2⟩
theorem Jw.pure {i j k:Nat} {P0 P1 P2:World→Prop} {w:World} {L:Nat→Bool} (h:Jw i j P0 P1 P2 L w) (hi:i≠k) (hj:j≠k):Jw i j P0 P1 P2 (upd L k) w:=
 ⟨by rw [upd_other _ hi,upd_other _ hj];exact h.p0,by rw [upd_other _ hi,upd_other _ hj];exact h.p1,by rw [upd_other _ hj];exact h.p2⟩
theorem Jw.first {i j:Nat} {P0 P1 P2:World→Prop} {w':World} {L:Nat→Bool} (hij:j≠i) (hLj:L j=false) (hw:P1 w'):Jw i j P0 P1 P2 (upd L i) w':=
 ⟨by rw [upd_same];intro h;(cases h),fun _ _=>hw,by rw [upd_other _ hij,hLj];intro h;cases h⟩
theorem Jw.second {i j:Nat} {P0 P1 P2:World→Prop} {w':World} {L:Nat→Bool} (hw:P2 w'):Jw i j P0 P1 P2 (upd L j) w':=
 ⟨by rw [upd_same];intro _ h;(cases h),by rw [upd_same];intro _ h;(cases h),fun _=>hw⟩
structure Jo (j:Nat) (P0 P1:World→Prop) (L:Nat→Bool) (w:World):Prop where
 p0:L j=false→P0 w
 p1:L j=true→P1 w
theorem Jo.congr {j m:Nat} {P0 P1:World→Prop} (hj:j<m):∀L L' w,(∀k,k<m→L k=L' k)→Jo j P0 P1 L w→Jo j P0 P1 L' w:=
 fun L L' w h hJ=>⟨by rw [←h j hj];exact hJ.p0,by rw [←h j hj];exact hJ.p1⟩
theorem Jo.pure {j k:Nat} {P0 P1:World→Prop} {w:World} {L:Nat→Bool} (h:Jo j P0 P1 L w) (hj:j≠k):Jo j P0 P1 (upd L k) w:=
 ⟨by rw [upd_other _ hj];exact h.p0,by rw [upd_other _ hj];exact h.p1⟩
theorem Jo.second {j:Nat} {P0 P1:World→Prop} {w':World} {L:Nat→Bool} (hw:P1 w'):Jo j P0 P1 (upd L j) w':=
 ⟨by rw [upd_same];intro h;(cases h),fun _=>hw⟩
structure Pz where
 x:Iv
 fi:Sh
 nd:Sh
 so:Int
 st:Int
 sz:Int
 yt:Int
 yn:Int
 rt:Int
 rz:Int
 tb:Sh
def Pz.cells (p:Pz):Array Value:=#[.int .i64 p.x.k,.int .u64 p.x.e,.int .u64 p.x.s,.int .i64 p.x.c,.slice p.x.sg.a p.x.sg.n p.x.sg.c,.string p.x.so,.slice p.x.nd.a p.x.nd.n p.x.nd.c,.slice p.x.nm.a p.x.nm.n p.x.nm.c,.slice p.x.sy.a p.x.sy.n p.x.sy.c,.slice p.x.rl.a p.x.rl.n p.x.rl.c,.slice p.x.zs.a p.x.zs.n p.x.zs.c,.slice p.fi.a p.fi.n p.fi.c,.slice p.nd.a p.nd.n p.nd.c,.int .u64 p.so,.int .u64 p.st,.int .u64 p.sz,.int .u64 p.yt,.int .u64 p.yn,.int .u64 p.rt,.int .u64 p.rz,.slice p.tb.a p.tb.n p.tb.c]
structure Pm where
 m:Im
 N:List Int
 so:Int
 st:Int
 sz:Int
 yt:Int
 yn:Int
 rt:Int
 rz:Int
 t:List Int
 f:List Int
def pm0 (f:List Int):Pm:=⟨im0,[],0,0,0,0,0,0,0,[],f⟩
def u64B (n:Int):Prop:=0≤n∧n≤18446744073709551615
structure Prow (w:World) (b:Nat) (p:Pz) (m:Pm):Prop where
 k:p.x.k=m.m.k
 e:p.x.e=m.m.e
 s:p.x.s=m.m.s
 c:p.x.c=m.m.c
 so:p.x.so=m.m.so
 sg:w.ownsRow b 65 7 (.slice p.x.sg.a p.x.sg.n p.x.sg.c) m.m.sg.length (flatS m.m.sg)
 nd:w.ownsRow b 9 1 (.slice p.x.nd.a p.x.nd.n p.x.nd.c) m.m.nd.length (m.m.nd.map Value.string)
 nm:w.ownsRow b 9 1 (.slice p.x.nm.a p.x.nm.n p.x.nm.c) m.m.nm.length (m.m.nm.map Value.string)
 sy:w.ownsRow b 76 6 (.slice p.x.sy.a p.x.sy.n p.x.sy.c) m.m.sy.length (Sy.flat m.m.sy)
 rl:w.ownsRow b 78 4 (.slice p.x.rl.a p.x.rl.n p.x.rl.c) m.m.rl.length (Rl.flat m.m.rl)
 zs:w.ownsRow b 5 1 (.slice p.x.zs.a p.x.zs.n p.x.zs.c) m.m.zs.length (m.m.zs.map (Value.int .u8))
 N:w.ownsRow b 24 1 (.slice p.nd.a p.nd.n p.nd.c) m.N.length (m.N.map (Value.int .u64))
 t:w.ownsRow b 5 1 (.slice p.tb.a p.tb.n p.tb.c) m.t.length (m.t.map (Value.int .u8))
 oks:∀s∈m.m.sg,s.Ok
 oky:∀s∈m.m.sy,s.Ok
 okr:∀s∈m.m.rl,s.Ok
 okz:∀n∈m.m.zs,0≤n∧n≤255
 okN:∀n∈m.N,0≤n∧n≤18446744073709551615
 okt:∀n∈m.t,0≤n∧n≤255
 lz:m.m.zs.length≤65536
 lN:m.N.length≤65537
 ly:m.m.sy.length≤65536
 bs:u64B p.x.s
 v0:p.so=m.so∧u64B m.so
 v1:p.st=m.st∧u64B m.st
 v2:p.sz=m.sz∧u64B m.sz
 v3:p.yt=m.yt∧u64B m.yt
 v4:p.yn=m.yn∧u64B m.yn
 v5:p.rt=m.rt∧u64B m.rt
 v6:p.rz=m.rz∧u64B m.rz
 zd:m.m.nd=[]→p.x.nd=Sh.zero
 zn:m.m.nm=[]→p.x.nm=Sh.zero
theorem Prow.kp {g:Nat} {W w:World} {b:Nat} {p:Pz} {m:Pm} (h:Prow W b p m) (hk:Kp g W w) (hg:g<b):Prow w b p m:=
 ⟨h.k,h.e,h.s,h.c,h.so,own_kp hk h.sg hg,own_kp hk h.nd hg,own_kp hk h.nm hg,own_kp hk h.sy hg,own_kp hk h.rl hg,own_kp hk h.zs hg,own_kp hk h.N hg,own_kp hk h.t hg,h.oks,h.oky,h.okr,h.okz,h.okN,h.okt,h.lz,h.lN,h.ly,h.bs,h.v0,h.v1,h.v2,h.v3,h.v4,h.v5,h.v6,h.zd,h.zn⟩
structure Ps9 (g:Nat) (w:World) (p:Pz) (m:Pm):Prop where
 box:Blk w g p.cells 72
 row:Prow w (g+1) p m
 fil:Bys w g p.fi.a p.fi.n m.f
 fok:p.fi.Ok
 fnl:p.fi.a=none→p.fi.c=0
theorem Ps9.lt {g:Nat} {w:World} {p:Pz} {m:Pm} (h:Ps9 g w p m):g<w.heap.size:=h.box.lt
theorem Ps9.later {g:Nat} {w w':World} {p:Pz} {m:Pm} (h:Ps9 g w p m) (hb:Below w.heap.size w w'):Ps9 g w' p m:=
 ⟨h.box.later hb,h.row.kp (Kp.below hb) (Nat.lt_succ_self _),h.fil.below (hb.mono (Nat.le_of_lt h.lt)),h.fok,h.fnl⟩
theorem Ps9.alloc {g:Nat} {w:World} {p:Pz} {m:Pm} (h:Ps9 g w p m) (o:Obj):Ps9 g (w.alloc o) p m:=h.later ((Below.refl _ _).alloc (Nat.le_refl _) o)
theorem Ps9.drew {g:Nat} {w:World} {p:Pz} {m:Pm} (h:Ps9 g w p m):Ps9 g w.drew p m:=h.later (Below.refl _ _).drew
structure Kq (g:Nat) (w w':World):Prop where
 bel:Below g w w'
 kp:Kp g w w'
theorem Kq.refl (g:Nat) (w:World):Kq g w w:=⟨Below.refl _ _,Kp.refl _ _⟩
theorem Kq.trans {g:Nat} {a b c:World} (h:Kq g a b) (k:Kq g b c):Kq g a c:=⟨h.bel.trans k.bel,h.kp.trans k.kp⟩
theorem Kq.later {g:Nat} {w w':World} (hg:g≤w.heap.size) (h:Below w.heap.size w w'):Kq g w w':=⟨h.mono hg,Kp.below h⟩
theorem Kq.set {g:Nat} {w w':World} (h:Kq g w w') (i:Nat) (u:Value):Kq g w (w'.setCell ⟨g,i,none⟩ u):=⟨h.bel.setCell (Nat.le_refl _) u,h.kp.set i u⟩
theorem Kq.alloc {g:Nat} {w w':World} (h:Kq g w w') (hg:g≤w'.heap.size) (o:Obj):Kq g w (w'.alloc o):=h.trans (Kq.later hg ((Below.refl _ _).alloc (Nat.le_refl _) o))
theorem Kq.drew {g:Nat} {w w':World} (h:Kq g w w') (hg:g≤w'.heap.size):Kq g w w'.drew:=h.trans (Kq.later hg (Below.refl _ _).drew)
theorem Ps9.next {g:Nat} {w w':World} {p p':Pz} {m m':Pm} (h:Ps9 g w p m) (hk:Kq g w w') (hbox:Blk w' g p'.cells 72) (hrow:Prow w' (g+1) p' m') (h1:p'.fi=p.fi) (h2:m'.f=m.f):Ps9 g w' p' m':=
 ⟨hbox,hrow,by rw [h1,h2];exact h.fil.below hk.bel,by rw [h1];exact h.fok,by rw [h1];exact h.fnl⟩
theorem Ps9.seg {g:Nat} {w:World} {p:Pz} {m:Pm} (h:Ps9 g w p m):Sgs w w.heap.size p.x.sg.a p.x.sg.n m.m.sg∧p.x.sg.n≤p.x.sg.c∧(p.x.sg.c:Int)≤9223372036854775807:=by
 have ho:=h.row.sg;obtain ⟨n0,l0,c0⟩:=own_n ho;rw [←n0] at ho;exact ⟨Sgs.own h.row.oks ho,l0,c0⟩
theorem Ps9.bys {g:Nat} {w:World} {p:Pz} {m:Pm} (h:Ps9 g w p m):Bys w w.heap.size p.x.zs.a p.x.zs.n m.m.zs∧p.x.zs.n≤p.x.zs.c∧(p.x.zs.c:Int)≤9223372036854775807∧p.x.zs.n≤65536:=by
 have ho:=h.row.zs;obtain ⟨n0,l0,c0⟩:=own_n ho;rw [←n0] at ho;exact ⟨Bys.own h.row.okz ho,l0,c0,by rw [n0];exact h.row.lz⟩
theorem Ps9.tab {g:Nat} {w:World} {p:Pz} {m:Pm} (h:Ps9 g w p m):Bys w w.heap.size p.tb.a p.tb.n m.t∧p.tb.n≤p.tb.c∧(p.tb.c:Int)≤9223372036854775807:=by
 have ho:=h.row.t;obtain ⟨n0,l0,c0⟩:=own_n ho;rw [←n0] at ho;exact ⟨Bys.own h.row.okt ho,l0,c0⟩
theorem Ps9.sym {g:Nat} {w:World} {p:Pz} {m:Pm} (h:Ps9 g w p m):Sy.Sl w w.heap.size p.x.sy.a p.x.sy.n m.m.sy∧p.x.sy.n≤p.x.sy.c∧(p.x.sy.c:Int)≤9223372036854775807:=by
 have ho:=h.row.sy;obtain ⟨n0,l0,c0⟩:=own_n ho;rw [←n0] at ho;exact ⟨Sy.Sl.own h.row.oky ho,l0,c0⟩
theorem Ps9.rel {g:Nat} {w:World} {p:Pz} {m:Pm} (h:Ps9 g w p m):Rl.Sl w w.heap.size p.x.rl.a p.x.rl.n m.m.rl∧p.x.rl.n≤p.x.rl.c∧(p.x.rl.c:Int)≤9223372036854775807:=by
 have ho:=h.row.rl;obtain ⟨n0,l0,c0⟩:=own_n ho;rw [←n0] at ho;exact ⟨Rl.Sl.own h.row.okr ho,l0,c0⟩
def StepPost (g:Nat) (Z:Int×Pm) (w:World) (r:Ending) (w':World):Prop:=
 r=.returned (.int .i64 Z.1)∧(Z.1=0→∃p,Ps9 g w' p Z.2)∧Kq g w w'
def StepOk (g:Nat) (f:FuncId) (Z:Pm→Int×Pm):Prop:=
 ∀(p:Pz) (m:Pm) (w:World),Ps9 g w p m→Calls Tryz.prog f #[.pointer (some ⟨g,0,none⟩)] w (StepPost g (Z m) w)
def StepAt (g:Nat) (f:FuncId) (pre:Pm→Prop) (Z:Pm→Int×Pm):Prop:=
 ∀(p:Pz) (m:Pm) (w:World),pre m→Ps9 g w p m→Calls Tryz.prog f #[.pointer (some ⟨g,0,none⟩)] w (StepPost g (Z m) w)
theorem StepOk.at' {g:Nat} {f:FuncId} {Z:Pm→Int×Pm} (h:StepOk g f Z) (pre:Pm→Prop):StepAt g f pre Z:=fun p m w _ h1=>h p m w h1
def runI:List (Pm→Int×Pm)→Pm→Int×Pm
 | [],m=>(0,m)
 | f :: fs,m=>if (f m).1≠0 then f m else runI fs (f m).2
theorem runI_at {fs:List (Pm→Int×Pm)} {q:Nat} {m:Pm} (h:q<fs.length):runI (fs.drop q) m=if ((fs.getD q fun m=>(0,m)) m).1≠0 then (fs.getD q fun m=>(0,m)) m else runI (fs.drop (q+1)) ((fs.getD q fun m=>(0,m)) m).2:=by
 rw [drop_at fs (fun m=>(0,m)) h];rfl
def stepV (g:Nat) (f:FuncId):Value:=.func (.func f) #[.pointer (some ⟨g,0,none⟩)] #[]
def Mono9 (g:Nat) (f:Value→World→Prop):Prop:=∀u w w',f u w→Kq g w w'→f u w'
theorem factsOf_mono9 {g:Nat} {Fs:List (Value→World→Prop)} (h:∀f∈Fs,Mono9 g f):∀(i:Nat) (u:Value) (w w':World),factsOf Fs i u w→Kq g w w'→factsOf Fs i u w':=by
 intro i u w w' hf hb;unfold factsOf at *;rw [List.getD_eq_getElem?_getD] at *;cases e:Fs[i]? with
 | none=>trivial
 | some f=>
   rw [e] at hf;exact h f (List.mem_of_getElem? e) _ _ _ hf hb
theorem mono9_cons {g:Nat} {f:Value→World→Prop} {Fs:List (Value→World→Prop)} (h:Mono9 g f) (k:∀f∈Fs,Mono9 g f):∀x∈f :: Fs,Mono9 g x:=by
 intro x hx;rcases List.mem_cons.1 hx with rfl | hx
 ·exact h
 ·exact k x hx
theorem mono9_nil (g:Nat):∀f∈([]:List (Value→World→Prop)),Mono9 g f:=fun _ h=>by cases h
theorem Is.mono9 (g:Nat) (v:Value):Mono9 g (Is v):=fun _ _ _ h _=>h
def Any9:Value→World→Prop:=fun _ _=>True
theorem Any9.mono (g:Nat):Mono9 g Any9:=fun _ _ _ _ _=>trivial
def Ow (b:Nat) (e:TypeId) (k n:Nat) (xs:List Value) (u:Value) (w:World):Prop:=w.ownsRow b e k u n xs
theorem Ow.mono {g b:Nat} (hg:g<b) (e:TypeId) (k n:Nat) (xs:List Value):Mono9 g (Ow b e k n xs):=fun _ _ _ h hk=>own_kp hk.kp h hg
def OwE (b:Nat) (e:TypeId) (k n:Nat) (xs:List Value) (er:Int) (u:Value) (w:World):Prop:=∃v,u=.tuple #[v,.int .i64 er]∧w.ownsRow b e k v n xs
theorem OwE.mono {g b:Nat} (hg:g<b) (e:TypeId) (k n:Nat) (xs:List Value) (er:Int):Mono9 g (OwE b e k n xs er):=fun _ _ _ h hk=>by
 obtain ⟨v,h1,h2⟩:=h;exact ⟨v,h1,own_kp hk.kp h2 hg⟩
theorem Jo.call {i j:Nat} {P0 P1:World→Prop} {w':World} {L:Nat→Bool} (hji:j≠i) (hL:L j=false) (hw:P0 w'):Jo j P0 P1 (upd L i) w':=
 ⟨fun _=>hw,by rw [upd_other _ hji,hL];intro h;cases h⟩
structure Bi where
 v0:Int
 v1:Int
 v2:Int
 v3:Int
 v4:Int
 v5:Int
 v6:Int
 dy:Int
 fr:Int
 cp:Int
 dp:Int
 tp:Int
structure Bu where
 s:Spv
 tb:Sh
 pd:Sh
 pn:Sh
 i:Bi
def Bu.cells (x:Bu):Array Value:=#[.int .i64 x.s.k,.string x.s.so,.slice x.s.nd.a x.s.nd.n x.s.nd.c,.int .u64 x.s.en,.slice x.s.co.a x.s.co.n x.s.co.c,.slice x.s.da.a x.s.da.n x.s.da.c,.int .u64 x.s.bs,.slice x.s.tl.a x.s.tl.n x.s.tl.c,.int .u64 x.s.tb,.slice x.s.df.a x.s.df.n x.s.df.c,.slice x.s.fx.a x.s.fx.n x.s.fx.c,.slice x.tb.a x.tb.n x.tb.c,.slice x.pd.a x.pd.n x.pd.c,.slice x.pn.a x.pn.n x.pn.c,.int .u64 x.i.v0,.int .u64 x.i.v1,.int .u64 x.i.v2,.int .u64 x.i.v3,.int .u64 x.i.v4,.int .u64 x.i.v5,.int .u64 x.i.v6,.int .u64 x.i.dy,.int .u64 x.i.fr,.int .u64 x.i.cp,.int .u64 x.i.dp,.int .u64 x.i.tp]
def Bu.val (x:Bu):Value:=.agg #[.int .i64 x.s.k,.string x.s.so,.slice x.s.nd.a x.s.nd.n x.s.nd.c,.int .u64 x.s.en,.slice x.s.co.a x.s.co.n x.s.co.c,.slice x.s.da.a x.s.da.n x.s.da.c,.int .u64 x.s.bs,.slice x.s.tl.a x.s.tl.n x.s.tl.c,.int .u64 x.s.tb,.slice x.s.df.a x.s.df.n x.s.df.c,.slice x.s.fx.a x.s.fx.n x.s.fx.c,.slice x.tb.a x.tb.n x.tb.c,.slice x.pd.a x.pd.n x.pd.c,.slice x.pn.a x.pn.n x.pn.c,.int .u64 x.i.v0,.int .u64 x.i.v1,.int .u64 x.i.v2,.int .u64 x.i.v3,.int .u64 x.i.v4,.int .u64 x.i.v5,.int .u64 x.i.v6,.int .u64 x.i.dy,.int .u64 x.i.fr,.int .u64 x.i.cp,.int .u64 x.i.dp,.int .u64 x.i.tp]
structure Bi.Ok (i:Bi):Prop where
 v0:u64B i.v0
 v1:u64B i.v1
 v2:u64B i.v2
 v3:u64B i.v3
 v4:u64B i.v4
 v5:u64B i.v5
 v6:u64B i.v6
 dy:u64B i.dy
 fr:u64B i.fr
 cp:u64B i.cp
 dp:u64B i.dp
 tp:u64B i.tp
structure Bu.Ok (x:Bu):Prop where
 nd:x.s.nd.Ok
 co:x.s.co.Ok
 da:x.s.da.Ok
 tl:x.s.tl.Ok
 df:x.s.df.Ok
 fx:x.s.fx.Ok
 tb:x.tb.Ok
 pd:x.pd.Ok
 pn:x.pn.Ok
 en:u64B x.s.en
 bs:u64B x.s.bs
 tz:u64B x.s.tb
 i:x.i.Ok
structure Bm where
 m:Sp
 tb:List Int
 pd:List Int
 pn:List Int
 i:Bi
structure Bu.Is (w:World) (B:Nat) (x:Bu) (b:Bm):Prop where
 s:x.s.Is w B b.m
 tb:Bys w B x.tb.a x.tb.n b.tb
 pd:Nus w B x.pd.a x.pd.n b.pd
 pn:Nus w B x.pn.a x.pn.n b.pn
 i:x.i=b.i
 ok:x.Ok
theorem Bu.Is.below {w w':World} {B:Nat} {x:Bu} {b:Bm} (h:x.Is w B b) (hb:Below B w w'):x.Is w' B b:=⟨h.s.below hb,h.tb.below hb,h.pd.below hb,h.pn.below hb,h.i,h.ok⟩
theorem Bu.Is.more {w:World} {B B':Nat} {x:Bu} {b:Bm} (h:x.Is w B b) (hB:B≤B'):x.Is w B' b:=⟨h.s.more hB,h.tb.more hB,h.pd.more hB,h.pn.more hB,h.i,h.ok⟩
theorem Sh.Ok.i {h:Sh} (k:h.Ok):(h.n:Int)≤9223372036854775807:=by have:=k.le;have:=k.max;omega
theorem u64_z:u64B 0:=⟨by decide,by decide⟩
def segN (ty fl at' size bz:Int):Sg:=⟨ty,fl,at',at',size,IntKind.u64.wrap (size+bz),if ty=1 then 256 else 8⟩
def datN (dn tn:Nat) (i:Bi):Int:=if 0<tn then IntKind.u64.wrap (IntKind.u64.wrap (i.tp+tn)-i.dp) else dn
def segs1 (cn:Nat) (i:Bi):List Sg:=[segN 1 4 0 i.fr 0]++(if 0<cn then [segN 1 5 i.cp cn 0] else [])
def segs2 (dn tn:Nat) (bz:Int) (i:Bi):List Sg:=if 0<datN dn tn i∨0<bz then [{ segN 1 6 i.dp (datN dn tn i) bz with ot:=if datN dn tn i=0 then 0 else i.dp }] else []
def segs3 (i:Bi):List Sg:=[segN 2 4 i.dy (IntKind.u64.wrap (i.v1-i.dy)) 0]
def segs4 (tn:Nat) (tz:Int) (i:Bi):List Sg:=if 0<tn then [segN 7 4 i.tp tn tz] else if 0<tz then [segN 7 4 0 0 tz] else []
def segsN (x:Bu):List Sg:=segs1 x.s.co.n x.i++segs2 x.s.da.n x.s.tl.n x.s.bs x.i++segs3 x.i++segs4 x.s.tl.n x.s.tb x.i
theorem u64_bd (n:Int):u64B (IntKind.u64.wrap n):=by rw [IntKind.wrap_u64];unfold u64B;omega
theorem segsN_len (x:Bu):2≤(segsN x).length∧(segsN x).length≤5:=by
 unfold segsN segs1 segs2 segs3 segs4;repeat' split
 all_goals simp
def endN (x:Bu):Int:=if 0<x.s.tl.n then IntKind.u64.wrap (x.i.tp+x.s.tl.n) else if 0<x.s.da.n then IntKind.u64.wrap (x.i.dp+x.s.da.n) else if 0<x.s.co.n then IntKind.u64.wrap (x.i.cp+x.s.co.n) else x.i.fr
def addrN (i:Bi) (wh of:Int):Int:=if wh=1 then IntKind.u64.wrap (i.cp+of) else if wh=2 then IntKind.u64.wrap (i.dp+of) else if wh=3 then of else 0
def kindN (wh:Int):Int:=if wh=1 then 2 else if wh=2 then 1 else if wh=3 then 6 else 0
def infoN (d:Df):Int:=(if d.wk then 32 else 16)+kindN d.wh
def symN9 (i:Bi) (d:Df) (p:Int):Sy:=⟨IntKind.u32.wrap p,infoN d,0,(if d.wh=0 then 0 else 1),addrN i d.wh d.of,0⟩
def syms9 (b:Bm) (k:Nat):List Sy:=(List.range k).map fun j=>symN9 b.i (b.m.df.getD j Df.zero) (b.pd.getD j 0)
def symsN (b:Bm):List Sy:=if b.m.df.length=0 then [] else Sy.zero :: syms9 b b.m.df.length
def relN9 (i:Bi) (f:Fx):Rl:=⟨addrN i f.wh f.of,f.ty,(if 0≤f.df then IntKind.u32.wrap (1+IntKind.u32.wrap f.df) else 0),f.ad⟩
def relsN (b:Bm) (k:Nat):List Rl:=(List.range k).map fun j=>relN9 b.i (b.m.fx.getD j Fx.zero)
def upI (x n:Int):Int:=(x+n-1) / n*n
def padN (m n:Nat):Nat:=(n-m % n) % n
end Go.Proofs.YtclgbdfkdbbinaaGreat
