/-
  What is proved here: words and contracts, a part of those that the statement rests on (P6).
  Conditions: none but that the arguments are values of their types.
-/
import Derived.Test.YtclgbdfkdbbinaaGreatP5
import Derived.Test.YtclgbdfkdbbinaaGreatP1
import Derived.Test.YtclgbdfkdbbinaaGreatP3
set_option linter.unusedVariables false
set_option linter.unusedSimpArgs false
set_option maxRecDepth 100000
set_option maxHeartbeats 12800000
namespace Go.Proofs.YtclgbdfkdbbinaaGreat
open Go.RowKit
def StepsRun (P:Program) (ops:List Oper) (J:(Nat→Bool)→World→Prop) (n:Nat) (x:List Value) (d:List Deferred) (dsts:List Nat) (vs:List Value):Nat→List Oper→Prop
 | _,[]=>True
 | i,o :: l=>(∀(L:Nat→Bool) (y:Nat→Value) (w:World),J L w→L i=false→(∀t,t ∉ dsts→y t=x.getD t undef)→(∀j,j∈preds o→L j=true∧(dsts.getD j 0<n→y (dsts.getD j 0)=vs.getD j undef))→
  (∀k q,ops[k]?=some q→L k=true→∀j,j∈preds q→L j=true)→(∀k,k<ops.length→L k=false→dsts.getD k 0<n→y (dsts.getD k 0)=x.getD (dsts.getD k 0) undef)→
  StepFact P o ⟨frameOf n y,d⟩ w fun u w'=>(dsts.getD i 0<n→u=vs.getD i undef)∧J (upd L i) w')∧StepsRun P ops J n x d dsts vs (i+1) l
theorem StepsRun.get {P:Program} {ops:List Oper} {J:(Nat→Bool)→World→Prop} {n:Nat} {x:List Value} {d:List Deferred} {dsts:List Nat} {vs:List Value} :
 ∀{l:List Oper} {k:Nat},StepsRun P ops J n x d dsts vs k l→∀i o,l[i]?=some o→
  ∀(L:Nat→Bool) (y:Nat→Value) (w:World),J L w→L (k+i)=false→(∀t,t ∉ dsts→y t=x.getD t undef)→(∀j,j∈preds o→L j=true∧(dsts.getD j 0<n→y (dsts.getD j 0)=vs.getD j undef))→
   (∀k q,ops[k]?=some q→L k=true→∀j,j∈preds q→L j=true)→(∀k,k<ops.length→L k=false→dsts.getD k 0<n→y (dsts.getD k 0)=x.getD (dsts.getD k 0) undef)→
   StepFact P o ⟨frameOf n y,d⟩ w fun u w'=>(dsts.getD (k+i) 0<n→u=vs.getD (k+i) undef)∧J (upd L (k+i)) w'
 | [],_,_,_,_,h=>by simp at h
 | o :: l,k,hs,0,o',h=>by
   simp only [List.getElem?_cons_zero,Option.some.injEq] at h;subst h;exact hs.1
 | o :: l,k,hs,i+1,o',h=>by
   rw [List.getElem?_cons_succ] at h;have:=hs.2.get i o' h
   rwa [show k+1+i=k+(i+1) from by omega] at this
section
variable {P:Program} {Q:Exit→Act→World→Prop}
theorem wpAny_run {l:List Oper} {x:List Value} {d:List Deferred} (dsts:List Nat) (vs:List Value) (J:(Nat→Bool)→World→Prop)
 (hJ:∀L L' w,(∀i,i<l.length→L i=L' i)→J L w→J L' w)
 (hok:invOk l dsts x.length=true) (hsteps:StepsRun P l J x.length x d dsts vs 0 l)
 (hend:∀(L:Nat→Bool) (w:World),J L w→(∀i,i<l.length→L i=true)→Q .normal ⟨(putAll (fun i=>vs.getD i undef) 0 dsts x).toArray,d⟩ w) :
 ∀(fuel:Nat) (listed:Array Bool) (y:Nat→Value) (w:World),left listed≤fuel→listed.size=l.length→(∀t,t ∉ dsts→y t=x.getD t undef)→
  (∀i,listed[i]?=some true→dsts.getD i 0<x.length→y (dsts.getD i 0)=vs.getD i undef)→J (fun i=>listed.getD i false) w→
  (∀k q,l[k]?=some q→listed.getD k false=true→∀j,j∈preds q→listed.getD j false=true)→(∀k,k<l.length→listed.getD k false=false→dsts.getD k 0<x.length→y (dsts.getD k 0)=x.getD (dsts.getD k 0) undef)→wpAny P .any l.toArray Q fuel listed ⟨frameOf x.length y,d⟩ w:=by
 simp only [invOk,Bool.and_eq_true,decide_eq_true_eq,List.all_eq_true,List.mem_range] at hok;obtain ⟨⟨⟨hdl,hnd⟩,hfm⟩,hord⟩:=hok;have fin:∀(listed:Array Bool) (y:Nat→Value) (w:World),listed.size=l.length→(∀t,t ∉ dsts→y t=x.getD t undef)→
  (∀i,listed[i]?=some true→dsts.getD i 0<x.length→y (dsts.getD i 0)=vs.getD i undef)→J (fun i=>listed.getD i false) w→(∀i,i<l.length→listed[i]?=some true)→Q .normal ⟨frameOf x.length y,d⟩ w:=by
  intro listed y w hsz hy hF hb hall;have h:=hend _ w hb (fun i hi=>by rw [Array.getD_eq_getD_getElem?,hall i hi];rfl);have e:(putAll (fun i=>vs.getD i undef) 0 dsts x).toArray=frameOf x.length y:=by
   obtain ⟨h1,h2,h3⟩:=putAll_get' (fun i=>vs.getD i undef) dsts 0 x hnd;apply Array.ext_getElem?
   intro t;rw [List.getElem?_toArray];by_cases ht:t<x.length
   ·rw [frameOf_get _ _ _ ht];by_cases hm:t∈dsts
    ·obtain ⟨j,hj,hjt⟩:=List.getElem_of_mem hm;have hj':dsts[j]?=some t:=by rw [List.getElem?_eq_getElem hj,hjt]
     have hjd:dsts.getD j 0=t:=by rw [List.getD_eq_getElem?_getD,hj'];rfl
     rw [h2 j t hj' ht,Nat.zero_add];have:=hF j (hall j (by omega)) (by rw [hjd];exact ht);rw [hjd] at this;rw [this]
    ·rw [h3 t hm,hy t hm,List.getD_eq_getElem?_getD,List.getElem?_eq_getElem ht];rfl
   ·rw [List.getElem?_eq_none (by omega),Array.getElem?_eq_none (by rw [frameOf_size];omega)]
  rw [e] at h;exact h
 intro fuel;induction fuel with
 | zero=>
   intro listed y w hf hsz hy hF hb hcl hun;have hall:∀i,i<l.length→listed[i]?=some true:=fun i hi=>by
    have:=left_zero listed.toList (by unfold left at hf;omega) i (by rw [Array.length_toList,hsz];exact hi);simpa using this
   refine ⟨?_,fin listed y w hsz hy hF hb hall⟩;apply List.eq_nil_iff_forall_not_mem.2
   intro j hj;obtain ⟨h0,o,ho,_⟩:=mem_ready.1 hj;have hjl:j<l.length:=by
    have:=(Array.getElem?_eq_some_iff.1 ho).1;simpa using this
   rw [Array.getD_eq_getD_getElem?,hall j hjl] at h0;cases h0
 | succ fuel ih=>
   intro listed y w hf hsz hy hF hb hcl hun;refine ⟨fun hr=>?_,fun i hi=>?_⟩
   ·refine fin listed y w hsz hy hF hb ?_;intro i;induction i using Nat.strongRecOn with
    | ind i ihi=>
      intro hi;cases hli:listed[i]? with
      | none=>rw [Array.getElem?_eq_none_iff] at hli;omega
      | some b=>
        cases b with
        | true=>rfl
        | false=>
          exfalso
          have:i∈Region.ready .any l.toArray listed:=by
           refine mem_ready.2 ⟨by rw [Array.getD_eq_getD_getElem?,hli];rfl,l[i],by rw [List.getElem?_toArray,List.getElem?_eq_getElem hi],fun e he hbe=>?_⟩;have h1:=hord i hi;rw [List.getElem?_eq_getElem hi] at h1;have h2:=List.all_eq_true.1 h1 e (by simpa using he);rw [hbe] at h2;have h3:e.on<i:=by simpa using h2
           rw [Array.getD_eq_getD_getElem?,ihi e.on h3 (by omega)];rfl
          rw [hr] at this;cases this
   ·obtain ⟨h0,o,ho,hall⟩:=mem_ready.1 hi;have ho':l[i]?=some o:=by simpa using ho
    have hil:i<l.length:=(List.getElem?_eq_some_iff.1 ho').1;have hli:listed[i]?=some false:=by
     cases hli:listed[i]? with
     | none=>rw [Array.getElem?_eq_none_iff] at hli;omega
     | some b=>rw [Array.getD_eq_getD_getElem?,hli] at h0;rw [show b=false from h0]
    have hst:=hsteps.get i o ho' (fun i=>listed.getD i false) y w hb (by rw [Nat.zero_add];show listed.getD i false=false;rw [Array.getD_eq_getD_getElem?,hli];rfl) hy (fun j hj=>by
     unfold preds at hj;obtain ⟨e,he,rfl⟩:=List.mem_map.1 hj;obtain ⟨he1,he2⟩:=List.mem_filter.1 he;have hl:=hall e (by simpa using he1) he2;refine ⟨hl,hF e.on ?_⟩;cases hle:listed[e.on]? with
     | none=>rw [Array.getD_eq_getD_getElem?,hle] at hl;cases hl
     | some b=>rw [Array.getD_eq_getD_getElem?,hle] at hl;rw [show b=true from hl]) hcl hun
    rw [Nat.zero_add] at hst;obtain ⟨t,ht⟩:∃t,dsts[i]?=some t:=⟨dsts[i]'(by omega),List.getElem?_eq_getElem (by omega)⟩
    have htd:dsts.getD i 0=t:=by rw [List.getD_eq_getElem?_getD,ht];rfl
    have hfi:=hfm i hil;rw [ho',ht] at hfi;simp only [Bool.and_eq_true,Bool.or_eq_true,decide_eq_true_eq] at hfi;obtain ⟨hgd,hfi⟩:=hfi;have after:∀u w',((dsts.getD i 0<x.length→u=vs.getD i undef)∧J (upd (fun i=>listed.getD i false) i) w')→wpAny P .any l.toArray Q fuel (listed.setIfInBounds i true) (Act.put ⟨frameOf x.length y,d⟩ o.dst u) w':=by
     rintro u w' ⟨hu,hJw⟩;rw [htd] at hu;have ea:(Act.put ⟨frameOf x.length y,d⟩ o.dst u)=⟨frameOf x.length (fun s=>if s=t then u else y s),d⟩:=by
      rcases hfi with ⟨h1,h2⟩ | ⟨h1,h2⟩
      ·rw [h1];simp only [Act.put,frameOf_set]
      ·have:o.dst=none:=by simpa using h1
       rw [this];simp only [Act.put]
       congr 1
       apply Array.ext_getElem?
       intro s;by_cases hs:s<x.length
       ·rw [frameOf_get _ _ _ hs,frameOf_get _ _ _ hs,if_neg (by omega)]
       ·rw [Array.getElem?_eq_none (by rw [frameOf_size];omega),Array.getElem?_eq_none (by rw [frameOf_size];omega)]
     rw [ea];have hlf:=left_set listed.toList i (by simpa using hli);have hup:∀j,(listed.setIfInBounds i true).getD j false=if j=i then true else listed.getD j false:=by
      intro j;by_cases hji:j=i
      ·subst hji;rw [if_pos rfl,Array.getD_eq_getD_getElem?,Array.getElem?_setIfInBounds_self_of_lt (by omega)];rfl
      ·rw [if_neg hji,Array.getD_eq_getD_getElem?,Array.getD_eq_getD_getElem?,Array.getElem?_setIfInBounds_ne (Ne.symm hji)]
     refine ih _ _ _ ?_ (by rw [Array.size_setIfInBounds,hsz]) ?_ ?_ (hJ _ _ _ ?_ hJw) ?_ ?_
     ·unfold left at hf⊢;rw [Array.toList_setIfInBounds];omega
     ·intro s hs;have hst:s≠t:=fun e=>hs (e▸List.mem_of_getElem? ht);simp only [hst,if_false];exact hy s hs
     ·intro j hj hjt;by_cases hji:j=i
      ·subst hji;rw [htd] at hjt⊢;simpa using hu hjt
      ·rw [Array.getElem?_setIfInBounds_ne (Ne.symm hji)] at hj;have hjl:j<dsts.length:=by
        have:=(Array.getElem?_eq_some_iff.1 hj).1;omega
       have hne:dsts.getD j 0≠t:=by
        rw [List.getD_eq_getElem?_getD,List.getElem?_eq_getElem hjl];intro e;have hit:dsts[i]'(by omega)=t:=(List.getElem?_eq_some_iff.1 ht).2;have:=nodup_inj hnd j i hjl (by omega) (show dsts[j]=dsts[i]'(by omega) from by rw [hit];simpa using e);exact hji this
       simp only [hne,if_false];exact hF j hj hjt
     ·intro j hj;by_cases hji:j=i
      ·subst hji;rw [upd_same,Array.getD_eq_getD_getElem?,Array.getElem?_setIfInBounds_self_of_lt (by omega)];rfl
      ·rw [upd_other _ hji,Array.getD_eq_getD_getElem?,Array.getD_eq_getD_getElem?,Array.getElem?_setIfInBounds_ne (Ne.symm hji)]
     ·intro k q hk hLk j hj;rw [hup] at hLk⊢;by_cases hji:j=i
      ·rw [if_pos hji]
      ·rw [if_neg hji];by_cases hki:k=i
       ·subst hki;rw [ho'] at hk;injection hk with hk;subst hk;unfold preds at hj;obtain ⟨e,he,rfl⟩:=List.mem_map.1 hj;obtain ⟨he1,he2⟩:=List.mem_filter.1 he;have hl:=hall e (by simpa using he1) he2;cases hle:listed[e.on]? with
        | none=>rw [Array.getD_eq_getD_getElem?,hle] at hl;cases hl
        | some b=>rw [Array.getD_eq_getD_getElem?,hle] at hl⊢;exact hl
       ·rw [if_neg hki] at hLk;exact hcl k q hk hLk j hj
     ·intro k hk hLk hkn;rw [hup] at hLk;by_cases hki:k=i
      ·rw [if_pos hki] at hLk;cases hLk
      ·rw [if_neg hki] at hLk;have hne:dsts.getD k 0≠t:=by
        rw [List.getD_eq_getElem?_getD,List.getElem?_eq_getElem (by omega)];intro e;have hit:dsts[i]'(by omega)=t:=(List.getElem?_eq_some_iff.1 ht).2;have:=nodup_inj hnd k i (by omega) (by omega) (show dsts[k]'(by omega)=dsts[i]'(by omega) from by rw [hit];simpa using e);exact hki this
       simp only [hne,if_false];exact hun k hk hLk hkn
    unfold wpOp;rw [ho];simp only
    have hw:Region.wanted o (yielded l.toArray (frameOf x.length y))=true:=by
     have:o.guard=none:=by simpa using hgd
     unfold Region.wanted;rw [this]
    rw [if_pos hw];exact .inl (hst _ _ after)
theorem wp_region_run {id:Nat} {l:List Oper} {x:List Value} {d:List Deferred} {w:World} (hm:P.follows .mixedOrders=true) (n:Nat) (hn:x.length=n) (dsts:List Nat) (vs:List Value) (J:(Nat→Bool)→World→Prop)
 (hJ:∀L L' w,(∀i,i<l.length→L i=L' i)→J L w→J L' w)
 (hok:invOk l dsts n=true) (hst:J (fun _=>false) w.drew) (hsteps:StepsRun P l J n x d dsts vs 0 l)
 (hend:∀(L:Nat→Bool) (w':World),J L w'→(∀i,i<l.length→L i=true)→Q .normal ⟨(putAll (fun i=>vs.getD i undef) 0 dsts x).toArray,d⟩ w') :
 (Code.region id l.toArray true).wp P Q ⟨x.toArray,d⟩ w:=by
 subst hn;refine wp_region_any hm ?_;change wpAny P .any l.toArray Q _ _ _ w.drew;rw [frameOf_list x];have hl:∀n,((List.replicate n false).filter (!·)).length=n:=fun n=>by induction n with
  | zero=>rfl
  | succ n ih=>rw [List.replicate_succ];simp
 refine wpAny_run dsts vs J hJ hok hsteps hend _ _ _ _ ?_ (by simp) (fun t ht=>rfl) ?_ (hJ _ _ _ ?_ hst) (fun k q hk hLk=>?_) (fun k hk _ _=>rfl)
 ·unfold left;rw [Array.toList_replicate,hl];exact Nat.le_refl _
 ·intro i hi;rw [Array.getElem?_replicate] at hi;split at hi<;>cases hi
 ·intro i hi;rw [Array.getD_eq_getD_getElem?,Array.getElem?_replicate];split<;>rfl
 ·rw [Array.getD_eq_getD_getElem?,Array.getElem?_replicate] at hLk;split at hLk<;>cases hLk
end
theorem eval_frame (n:Nat) (y:Nat→Value) (d:List Deferred) {t:Nat} (h:t<n):(⟨frameOf n y,d⟩:Act).eval (.tmp t)=y t:=by
 simp [Act.eval,frameOf_get _ _ _ h]
theorem evA1 {n:Nat} {y:Nat→Value} {a:Nat} {u:Value} (e:y a=u) (h:a<n):∃A:Act,⟨frameOf n y,[]⟩=A∧A.tmps.getD a undef=u:=⟨_,rfl,(eval_frame n y [] h).trans e⟩
theorem evA2 {n:Nat} {y:Nat→Value} {a b:Nat} {u v:Value} (e:y a=u) (f:y b=v) (h:a<n) (g:b<n):∃A:Act,⟨frameOf n y,[]⟩=A∧A.tmps.getD a undef=u∧A.tmps.getD b undef=v:=⟨_,rfl,(eval_frame n y [] h).trans e,(eval_frame n y [] g).trans f⟩
theorem evA3 {n:Nat} {y:Nat→Value} {a b c:Nat} {u v x:Value} (e:y a=u) (f:y b=v) (k:y c=x) (h:a<n) (g:b<n) (i:c<n):∃A:Act,⟨frameOf n y,[]⟩=A∧A.tmps.getD a undef=u∧A.tmps.getD b undef=v∧A.tmps.getD c undef=x:=⟨_,rfl,(eval_frame n y [] h).trans e,(eval_frame n y [] g).trans f,(eval_frame n y [] i).trans k⟩
theorem step_append {P:Program} {o:Oper} {a:Act} {w w':World} {post:Value→World→Prop} (t:TypeId) (s x:Operand) (ho:o.op=.call { callee:=.builtin .append,args:=#[s,x],argTypes:=#[t,t] }) (S X:Value) {v':Value} (hs:a.eval s=S) (hx:a.eval x=X)
 (hr:(Builtin.append_ #[t,t] o.type #[S,X]).run P w=.ok v' w') (h:post v' w'):StepFact P o a w post:=by
 intro K Q hK;have:=hK _ _ h;unfold Oper.wp execOp;simp only [ho,resolve,invoke,builtin,Sem.run_bind,Sem.run_pure,Result.andThen_ok,List.map_toArray,List.map_cons,List.map_nil,hs,hx,hr];exact this
def J2 (i j:Nat) (W0 W1 W2:World) (L:Nat→Bool) (w:World):Prop:=w=if L j=true then W2 else if L i=true then W1 else W0
theorem J2.congr {i j m:Nat} {W0 W1 W2:World} (hi:i<m) (hj:j<m):∀L L' w,(∀k,k<m→L k=L' k)→J2 i j W0 W1 W2 L w→J2 i j W0 W1 W2 L' w:=by
 intro L L' w h hJ;unfold J2 at *;rw [←h i hi,←h j hj];exact hJ
theorem J2.pure {i j k:Nat} {W0 W1 W2 w:World} {L:Nat→Bool} (h:J2 i j W0 W1 W2 L w) (hi:i≠k) (hj:j≠k):J2 i j W0 W1 W2 (upd L k) w:=by
 unfold J2 at *;rw [upd_other _ hi,upd_other _ hj];exact h
theorem J2.first {i j:Nat} {W0 W1 W2 w:World} {L:Nat→Bool} (h:J2 i j W0 W1 W2 L w) (hij:j≠i) (hL:L i=false) (hcl:L j=true→L i=true):w=W0∧J2 i j W0 W1 W2 (upd L i) W1:=by
 have hLj:L j=false:=by
  cases hh:L j with
  | false=>rfl
  | true=>rw [hcl hh] at hL;cases hL
 unfold J2 at *;rw [upd_same,upd_other _ hij,hLj];rw [hLj,hL] at h;exact ⟨by simpa using h,by simp⟩
theorem J2.second {i j:Nat} {W0 W1 W2 w:World} {L:Nat→Bool} (h:J2 i j W0 W1 W2 L w) (hij:i≠j) (hL:L j=false) (hLi:L i=true):w=W1∧J2 i j W0 W1 W2 (upd L j) W2:=by
 unfold J2 at *;rw [hL,hLi] at h;rw [upd_same];exact ⟨by simpa using h,by simp⟩
theorem J2.done {i j:Nat} {W0 W1 W2 w:World} {L:Nat→Bool} (h:J2 i j W0 W1 W2 L w) (hL:L j=true):w=W2:=by
 unfold J2 at h;rw [hL] at h;simpa using h
theorem J2.all {i j:Nat} {W0 W1 W2 w:World} {L:Nat→Bool} (h:J2 i j W0 W1 W2 L w) {p:World→Prop} (h0:p W0) (h1:p W1) (h2:p W2):p w:=by
 unfold J2 at h;subst h;split
 ·exact h2
 ·split
  ·exact h1
  ·exact h0
theorem info_sym:(Tryz.prog.info? 76).map (fun i=>(i.zero,i.size,i.bytes))=some (some (.agg #[.int .u32 0,.int .u8 0,.int .u8 0,.int .u16 0,.int .u64 0,.int .u64 0]),6,24):=by kernel_rfl
theorem fr76 (y:Nat→Value):frameOf 76 y=#[y 0,y 1,y 2,y 3,y 4,y 5,y 6,y 7,y 8,y 9,y 10,y 11,y 12,y 13,y 14,y 15,y 16,y 17,y 18,y 19,y 20,y 21,y 22,y 23,y 24,y 25,y 26,y 27,y 28,y 29,y 30,y 31,y 32,y 33,y 34,y 35,y 36,y 37,y 38,y 39,y 40,y 41,y 42,y 43,y 44,y 45,y 46,y 47,y 48,y 49,y 50,y 51,y 52,y 53,y 54,y 55,y 56,y 57,y 58,y 59,y 60,y 61,y 62,y 63,y 64,y 65,y 66,y 67,y 68,y 69,y 70,y 71,y 72,y 73,y 74,y 75]:=rfl
theorem k6_one_cells (s:Sy):∀u∈[Value.int .u32 s.na,.int .u8 s.inf,.int .u8 s.ot,.int .u16 s.se,.int .u64 s.va,.int .u64 s.si],u.oneCell'=true:=by
 intro u hu;simp only [List.mem_cons,List.not_mem_nil,or_false] at hu;rcases hu with rfl | rfl | rfl | rfl | rfl | rfl<;>rfl
theorem rtable6_any (B:Nat) (a:Option Addr) (len cap:Nat) (zs:List Int) (w:World) (hb:Bys w B a len zs) (hB:B≤w.heap.size) (hl:len≤140737488355328) :
 Calls Tryz.prog 117 #[.slice a len cap] w fun r w'=>(∃u,r=.returned (.tuple #[u,.int .i64 (tabY zs).1])∧w'.ownsRow w.heap.size 76 6 u (tabY zs).2.length (Sy.flat (tabY zs).2))∧Below w.heap.size w w':=by
 obtain ⟨i0,hi,hz0,hz1,hz2⟩:=info_parts info_sym;have HI:=Lib.hid hi;have HZ0:=Lib.hid hz0;have HZ1:=Lib.hid hz1;have HZ2:=Lib.hid hz2;have HZB:=Lib.hid hb.2.1;have HZL:=Lib.hid hb.1;have HBY:=Lib.hid hb;have hli:(len:Int)≤140737488355328:=by omega
 clear hi hz0 hz1 hz2;by_cases hm:len % 24=0
 ·have HR:Hid (tabY zs=(0,k6_tabS zs (len / 24))):=Lib.hid (by unfold tabY;rw [HZL.out,if_pos hm]);rw [HR.out];have hmi:(len:Int) % 24=0:=by omega
  have HTL:=Lib.hid (k6_tabS_len zs (len / 24));obtain ⟨n,hn⟩:∃n,len / 24=n:=⟨_,rfl⟩
  rw [hn] at HTL HR⊢;have hln1:len≤24*n:=by omega
  have hln2:24*n≤len:=by omega
  clear hb hn hm;go_enter Tryz.func117,Tryz.ntmps117
  go_wp2;simp only [hmi];go_loopw [4,5] (fun v i wr=>∃k:Nat,k≤n∧i=.int .i64 (24*(k:Int))∧wr.ownsRow w.heap.size 76 6 v k (Sy.flat (k6_tabS zs k))∧Below w.heap.size w wr) (fun _ i _=>24*n-(intOf i).toNat)
  case atStart=>exact ⟨0,Nat.zero_le _,rfl,World.ownsRow_nil _ _ _ _,Below.refl _ _⟩
  case round=>
   obtain ⟨k,hk,rfl,hown,hbel⟩:=hrel;by_cases hlt:k<n
   ·have hki:24*(k:Int)<24*n:=by omega
    have hkl:24*(k:Int)<len:=by omega
    have hkl2:24*(k:Int)+24≤len:=by omega
    have HBYW:=Lib.hid (HBY.out.below (hbel.mono hB));obtain ⟨b,off,rfl,hbB,hcell⟩:=HBYW.out.2.2 (by omega);have hsz:=hbel.size;have hbw:b<w.heap.size:=by omega
    have HG1:Hid (Calls Tryz.prog 107 #[.slice (some ⟨b,off,none⟩) len cap,.int .u64 (24*(k:Int)),.int .i64 4] wr fun e w'=>e=.returned (.tuple #[.int .u64 (symAt zs k).na,.int .i64 0])∧wr=w'):=Lib.hid (by
     have h:=rget_ok B _ len cap zs (24*k) 4 wr HBYW.out (by decide) (by omega) (by omega);rw [show ((24*k:Nat):Int)=24*(k:Int) by omega] at h;exact h)
    have HG2:Hid (Calls Tryz.prog 107 #[.slice (some ⟨b,off,none⟩) len cap,.int .u64 (24*(k:Int)+6),.int .i64 2] wr fun e w'=>e=.returned (.tuple #[.int .u64 (symAt zs k).se,.int .i64 0])∧wr=w'):=Lib.hid (by
     have h:=rget_ok B _ len cap zs (24*k+6) 2 wr HBYW.out (by decide) (by omega) (by omega);rw [show ((24*k+6:Nat):Int)=24*(k:Int)+6 by omega] at h;exact h)
    have HG3:Hid (Calls Tryz.prog 107 #[.slice (some ⟨b,off,none⟩) len cap,.int .u64 (24*(k:Int)+8),.int .i64 8] wr fun e w'=>e=.returned (.tuple #[.int .u64 (symAt zs k).va,.int .i64 0])∧wr=w'):=Lib.hid (by
     have h:=rget_ok B _ len cap zs (24*k+8) 8 wr HBYW.out (by decide) (by omega) (by omega);rw [show ((24*k+8:Nat):Int)=24*(k:Int)+8 by omega] at h;exact h)
    have HG4:Hid (Calls Tryz.prog 107 #[.slice (some ⟨b,off,none⟩) len cap,.int .u64 (24*(k:Int)+16),.int .i64 8] wr fun e w'=>e=.returned (.tuple #[.int .u64 (symAt zs k).si,.int .i64 0])∧wr=w'):=Lib.hid (by
     have h:=rget_ok B _ len cap zs (24*k+16) 8 wr HBYW.out (by decide) (by omega) (by omega);rw [show ((24*k+16:Nat):Int)=24*(k:Int)+16 by omega] at h;exact h)
    have HC1:Hid (∀w',Below w.heap.size wr w'→w'.cell? ⟨b,off+(24*k+4),none⟩=some (.int .u8 (symAt zs k).inf)):=Lib.hid (fun w' h=>(h.cell (p:=⟨b,off+(24*k+4),none⟩) hbw).trans (hcell (24*k+4) (by omega)));have HC2:Hid (∀w',Below w.heap.size wr w'→w'.cell? ⟨b,off+(24*k+5),none⟩=some (.int .u8 (symAt zs k).ot)):=Lib.hid (fun w' h=>(h.cell (p:=⟨b,off+(24*k+5),none⟩) hbw).trans (hcell (24*k+5) (by omega)));have HTS:=Lib.hid (k6_tabS_succ zs k);obtain ⟨⟨a0,a1⟩,⟨b0,b1⟩,⟨c0,c1⟩,⟨d0,d1⟩,⟨e0,e1⟩,⟨f0,f1⟩⟩:=symAt_ok (zs:=zs) (k:=k) HZB.out (by rw [HZL.out];omega);generalize symAt zs k=s at HG1 HG2 HG3 HG4 HC1 HC2 HTS a0 a1 b0 b1 c0 c1 d0 d1 e0 e1 f0 f1;have HOC:=Lib.hid (k6_one_cells s);obtain ⟨na,inf,ot,se,va,si⟩:=s;simp only at HG1 HG2 HG3 HG4 HC1 HC2 HOC a0 a1 b0 b1 c0 c1 d0 d1 e0 e1 f0 f1;obtain ⟨W1,hW1⟩:∃W1,W1=(wr.alloc (.cells #[.int .u32 na,.int .u8 inf,.int .u8 ot,.int .u16 se,.int .u64 va,.int .u64 si] 76)).drew:=⟨_,rfl⟩
    have hsW1:wr.heap.size≤W1.heap.size:=by rw [hW1];show wr.heap.size≤(wr.alloc _).heap.size;rw [World.size_alloc];omega
    obtain ⟨v',W2,hrun,hown2,hg2,-⟩:=run_append_own (P:=Tryz.prog) W1 w.heap.size 29 29 76 i0 _ 6 24 Tryz.underlying29 HI.out HZ0.out HZ1.out HZ2.out rfl (by decide) _ k _ (by rw [hW1];exact (World.ownsRow.alloc hown _)) ⟨wr.heap.size,0,none⟩ 1 1 [.int .u32 na,.int .u8 inf,.int .u8 ot,.int .u16 se,.int .u64 va,.int .u64 si] rfl (by rw [hW1];exact k6_cells_new wr _ _ _ rfl) HOC.out (by unfold maxLen;omega) (by omega) (by omega);have HRUN:=Lib.hid hrun;have hbW1:Below w.heap.size wr W1:=by rw [hW1];exact ((Below.refl _ _).alloc hsz _).drew
    have hbW2:Below w.heap.size wr W2:=hbW1.grown hg2 (by omega) (fun q e=>(hown.lt q e).1);have HBW:Hid (∀L x,J2 18 19 wr.drew W1 W2 L x→Below w.heap.size wr x):=Lib.hid (fun L x h=>h.all (p:=fun x=>Below w.heap.size wr x) (Below.refl _ _).drew hbW1 hbW2);have HO2:Hid (W2.ownsRow w.heap.size 76 6 v' (k+1) (Sy.flat (k6_tabS zs (k+1)))):=Lib.hid (by
     rw [HTS.out,Sy.flat_snoc];exact hown2)
    have HB2:=Lib.hid (hbel.trans hbW2);have HW1:=Lib.hid hW1;clear hrun hown2 hg2 hbW1 hbW2 hW1 hown hbel hcell;go_wp2_with (first | (go_at_call 107;with_reducible refine HG1.out.mono ?_;rintro e w' ⟨rfl,rfl⟩) | (go_at_call 107;with_reducible refine HG2.out.mono ?_;rintro e w' ⟨rfl,rfl⟩) | (go_at_call 107;with_reducible refine HG3.out.mono ?_;rintro e w' ⟨rfl,rfl⟩) | (go_at_call 107;with_reducible refine HG4.out.mono ?_;rintro e w' ⟨rfl,rfl⟩));have hw1:IntKind.u32.wrap na=na:=by rw [IntKind.wrap_u32];omega
    have hw2:IntKind.u16.wrap se=se:=by rw [IntKind.wrap_u16];omega
    have hw3:IntKind.i64.wrap (24*(k:Int)+4)=24*(k:Int)+4:=by rw [IntKind.wrap_i64];omega
    have hw4:IntKind.i64.wrap (24*(k:Int)+5)=24*(k:Int)+5:=by rw [IntKind.wrap_i64];omega
    have hn4:(24*(k:Int)+4).toNat=24*k+4:=by omega
    have hn5:(24*(k:Int)+5).toNat=24*k+5:=by omega
    refine wp_region_run (by kernel_rfl) 76 rfl [55,56,57,58,59,60,61,62,63,64,65,66,67,68,69,70,71,72,73,74,4] [u4,.int .u64 na,.int .u32 na,.slice (some ⟨b,off,none⟩) len cap,.int .i64 (24*(k:Int)),.int .i64 (24*(k:Int)+4),.pointer (some ⟨b,off+(24*k+4),none⟩),.int .u8 inf,.slice (some ⟨b,off,none⟩) len cap,.int .i64 (24*(k:Int)),.int .i64 (24*(k:Int)+5),.pointer (some ⟨b,off+(24*k+5),none⟩),.int .u8 ot,.int .u64 se,.int .u16 se,.int .u64 va,.int .u64 si,.agg #[.int .u32 na,.int .u8 inf,.int .u8 ot,.int .u16 se,.int .u64 va,.int .u64 si],.slice (some ⟨wr.heap.size,0,none⟩) 1 1,v',v'] (J2 18 19 wr.drew W1 W2) ?hj (by kernel_rfl) ?start ?steps ?fin;case hj=>exact J2.congr (by decide) (by decide)
    case start=>exact rfl
    case fin=>
     intro L w3 hJ hall;obtain rfl:=hJ.done (hall 19 (by decide));clear hJ hall;simp only [putAll,List.set_cons_succ,List.set_cons_zero,Nat.reduceAdd,List.getD_cons_succ,List.getD_cons_zero];go_wp2;go_roundw
     case rel=>exact ⟨k+1,by omega,by go_num,HO2.out,HB2.out⟩
     case measure=>(simp [intOf]<;>omega)
    case steps=>
     refine ⟨?_,?_,?_,?_,?_,?_,?_,?_,?_,?_,?_,?_,?_,?_,?_,?_,?_,?_,?_,?_,?_,trivial⟩;all_goals intro L y w3 hJ hL hy0 hp0 hcl hun
     all_goals have hy:=Lib.hid hy0
     all_goals have hp:=Lib.hid hp0
     all_goals have hb3:=Lib.hid (HBW.out _ _ hJ)
     all_goals clear hy0 hp0
     ·have hL20:L 20=false:=by
       cases h:L 20 with
       | false=>rfl
       | true=>have:=hcl 20 _ rfl h 0 (by decide);rw [hL] at this;cases this
      exact step_move (.tmp 4) (.inl rfl) ⟨fun _=>(eval_frame 76 y _ (by decide)).trans (hun 20 (by decide) hL20 (by decide)),hJ.pure (by decide) (by decide)⟩
     ·have e1:y 6=.int .u64 na:=hy.out 6 (by decide);have hJ3:=Lib.hid (hJ.pure (show (18:Nat)≠1 by decide) (show (19:Nat)≠1 by decide));intro K Q hK;simp only [fr76] at hK⊢;rw [e1] at hK⊢;clear hcl hun hJ;go_simp;exact hK _ _ ⟨fun _=>rfl,hJ3.out⟩
     ·have e1:y 56=.int .u64 na:=(hp.out 1 (by decide)).2 (by decide);have hJ3:=Lib.hid (hJ.pure (show (18:Nat)≠2 by decide) (show (19:Nat)≠2 by decide));intro K Q hK;simp only [fr76] at hK⊢;rw [e1] at hK⊢;clear hcl hun hJ;go_simp;exact hK _ _ ⟨fun _=>rfl,hJ3.out⟩
     ·have e1:y 0=.slice (some ⟨b,off,none⟩) len cap:=hy.out 0 (by decide);have hJ3:=Lib.hid (hJ.pure (show (18:Nat)≠3 by decide) (show (19:Nat)≠3 by decide));intro K Q hK;simp only [fr76] at hK⊢;rw [e1] at hK⊢;clear hcl hun hJ;go_simp;exact hK _ _ ⟨fun _=>rfl,hJ3.out⟩
     ·have e1:y 5=.int .i64 (24*(k:Int)):=hy.out 5 (by decide);have hJ3:=Lib.hid (hJ.pure (show (18:Nat)≠4 by decide) (show (19:Nat)≠4 by decide));intro K Q hK;simp only [fr76] at hK⊢;rw [e1] at hK⊢;clear hcl hun hJ;go_simp;exact hK _ _ ⟨fun _=>rfl,hJ3.out⟩
     ·have e1:y 59=.int .i64 (24*(k:Int)):=(hp.out 4 (by decide)).2 (by decide);have hJ3:=Lib.hid (hJ.pure (show (18:Nat)≠5 by decide) (show (19:Nat)≠5 by decide));intro K Q hK;simp only [fr76] at hK⊢;rw [e1] at hK⊢;clear hcl hun hJ;go_simp;exact hK _ _ ⟨fun _=>rfl,hJ3.out⟩
     ·have e1:y 58=.slice (some ⟨b,off,none⟩) len cap:=(hp.out 3 (by decide)).2 (by decide);have e2:y 60=.int .i64 (24*(k:Int)+4):=(hp.out 5 (by decide)).2 (by decide);have hJ3:=Lib.hid (hJ.pure (show (18:Nat)≠6 by decide) (show (19:Nat)≠6 by decide));intro K Q hK;simp only [fr76] at hK⊢;rw [e1,e2] at hK⊢;clear hcl hun hJ;go_simp;rw [if_pos ⟨by omega,by omega⟩];exact hK _ _ ⟨fun _=>rfl,hJ3.out⟩
     ·have e1:y 61=.pointer (some ⟨b,off+(24*k+4),none⟩):=(hp.out 6 (by decide)).2 (by decide);have hJ3:=Lib.hid (hJ.pure (show (18:Nat)≠7 by decide) (show (19:Nat)≠7 by decide));have hce:=HC1.out _ hb3.out;intro K Q hK;simp only [fr76] at hK⊢;rw [e1] at hK⊢;clear hcl hun hJ;go_simp;exact hK _ _ ⟨fun _=>rfl,hJ3.out⟩
     ·have e1:y 0=.slice (some ⟨b,off,none⟩) len cap:=hy.out 0 (by decide);have hJ3:=Lib.hid (hJ.pure (show (18:Nat)≠8 by decide) (show (19:Nat)≠8 by decide));intro K Q hK;simp only [fr76] at hK⊢;rw [e1] at hK⊢;clear hcl hun hJ;go_simp;exact hK _ _ ⟨fun _=>rfl,hJ3.out⟩
     ·have e1:y 5=.int .i64 (24*(k:Int)):=hy.out 5 (by decide);have hJ3:=Lib.hid (hJ.pure (show (18:Nat)≠9 by decide) (show (19:Nat)≠9 by decide));intro K Q hK;simp only [fr76] at hK⊢;rw [e1] at hK⊢;clear hcl hun hJ;go_simp;exact hK _ _ ⟨fun _=>rfl,hJ3.out⟩
     ·have e1:y 64=.int .i64 (24*(k:Int)):=(hp.out 9 (by decide)).2 (by decide);have hJ3:=Lib.hid (hJ.pure (show (18:Nat)≠10 by decide) (show (19:Nat)≠10 by decide));intro K Q hK;simp only [fr76] at hK⊢;rw [e1] at hK⊢;clear hcl hun hJ;go_simp;exact hK _ _ ⟨fun _=>rfl,hJ3.out⟩
     ·have e1:y 63=.slice (some ⟨b,off,none⟩) len cap:=(hp.out 8 (by decide)).2 (by decide);have e2:y 65=.int .i64 (24*(k:Int)+5):=(hp.out 10 (by decide)).2 (by decide);have hJ3:=Lib.hid (hJ.pure (show (18:Nat)≠11 by decide) (show (19:Nat)≠11 by decide));intro K Q hK;simp only [fr76] at hK⊢;rw [e1,e2] at hK⊢;clear hcl hun hJ;go_simp;rw [if_pos ⟨by omega,by omega⟩];exact hK _ _ ⟨fun _=>rfl,hJ3.out⟩
     ·have e1:y 66=.pointer (some ⟨b,off+(24*k+5),none⟩):=(hp.out 11 (by decide)).2 (by decide);have hJ3:=Lib.hid (hJ.pure (show (18:Nat)≠12 by decide) (show (19:Nat)≠12 by decide));have hce:=HC2.out _ hb3.out;intro K Q hK;simp only [fr76] at hK⊢;rw [e1] at hK⊢;clear hcl hun hJ;go_simp;exact hK _ _ ⟨fun _=>rfl,hJ3.out⟩
     ·have e1:y 8=.int .u64 se:=hy.out 8 (by decide);have hJ3:=Lib.hid (hJ.pure (show (18:Nat)≠13 by decide) (show (19:Nat)≠13 by decide));intro K Q hK;simp only [fr76] at hK⊢;rw [e1] at hK⊢;clear hcl hun hJ;go_simp;exact hK _ _ ⟨fun _=>rfl,hJ3.out⟩
     ·have e1:y 68=.int .u64 se:=(hp.out 13 (by decide)).2 (by decide);have hJ3:=Lib.hid (hJ.pure (show (18:Nat)≠14 by decide) (show (19:Nat)≠14 by decide));intro K Q hK;simp only [fr76] at hK⊢;rw [e1] at hK⊢;clear hcl hun hJ;go_simp;exact hK _ _ ⟨fun _=>rfl,hJ3.out⟩
     ·have e1:y 10=.int .u64 va:=hy.out 10 (by decide);have hJ3:=Lib.hid (hJ.pure (show (18:Nat)≠15 by decide) (show (19:Nat)≠15 by decide));intro K Q hK;simp only [fr76] at hK⊢;rw [e1] at hK⊢;clear hcl hun hJ;go_simp;exact hK _ _ ⟨fun _=>rfl,hJ3.out⟩
     ·have e1:y 12=.int .u64 si:=hy.out 12 (by decide);have hJ3:=Lib.hid (hJ.pure (show (18:Nat)≠16 by decide) (show (19:Nat)≠16 by decide));intro K Q hK;simp only [fr76] at hK⊢;rw [e1] at hK⊢;clear hcl hun hJ;go_simp;exact hK _ _ ⟨fun _=>rfl,hJ3.out⟩
     ·have e1:y 57=.int .u32 na:=(hp.out 2 (by decide)).2 (by decide);have e2:y 62=.int .u8 inf:=(hp.out 7 (by decide)).2 (by decide);have e3:y 67=.int .u8 ot:=(hp.out 12 (by decide)).2 (by decide);have e4:y 69=.int .u16 se:=(hp.out 14 (by decide)).2 (by decide);have e5:y 70=.int .u64 va:=(hp.out 15 (by decide)).2 (by decide);have e6:y 71=.int .u64 si:=(hp.out 16 (by decide)).2 (by decide);have hJ3:=Lib.hid (hJ.pure (show (18:Nat)≠17 by decide) (show (19:Nat)≠17 by decide));intro K Q hK;simp only [fr76] at hK⊢;rw [e1,e2,e3,e4,e5,e6] at hK⊢;clear hcl hun hJ;go_simp;exact hK _ _ ⟨fun _=>rfl,hJ3.out⟩
     ·have e1:y 72=.agg #[.int .u32 na,.int .u8 inf,.int .u8 ot,.int .u16 se,.int .u64 va,.int .u64 si]:=(hp.out 17 (by decide)).2 (by decide);have hJ2:=hJ.first (by decide) hL (fun h=>hcl 19 _ rfl h 18 (by decide));obtain ⟨rfl,hJ3⟩:=hJ2;intro K Q hK;simp only [fr76] at hK⊢;rw [e1] at hK⊢;clear hcl hun hJ;go_simp;rw [←HW1.out];exact hK _ _ ⟨fun _=>rfl,hJ3⟩
     ·have e1:=(hp.out 0 (by decide)).2 (by decide);have e2:y 73=.slice (some ⟨wr.heap.size,0,none⟩) 1 1:=(hp.out 18 (by decide)).2 (by decide);obtain ⟨rfl,hJ3⟩:=hJ.second (by decide) hL (hp.out 18 (by decide)).1;exact step_append 29 (.tmp 55) (.tmp 73) rfl _ _ ((eval_frame 76 y _ (by decide)).trans e1) ((eval_frame 76 y _ (by decide)).trans e2) (HRUN.out) ⟨fun _=>rfl,hJ3⟩
     ·have e1:y 74=v':=(hp.out 19 (by decide)).2 (by decide);have hJ3:=Lib.hid (hJ.pure (show (18:Nat)≠20 by decide) (show (19:Nat)≠20 by decide));intro K Q hK;simp only [fr76] at hK⊢;rw [e1] at hK⊢;clear hcl hun hJ;go_simp;exact hK _ _ ⟨fun _=>rfl,hJ3.out⟩
   ·obtain rfl:n=k:=by omega
    have hkl:¬24*(n:Int)<len:=by omega
    have HO2:Hid (wr.ownsRow w.heap.size 76 6 _ (k6_tabS zs n).length (Sy.flat (k6_tabS zs n))):=Lib.hid (by rw [HTL.out];exact hown);clear hown;go_wp2;go_ret2;exact ⟨⟨_,rfl,HO2.out⟩,hbel⟩
 ·have HR:Hid (tabY zs=(10,[])):=Lib.hid (by unfold tabY;rw [HZL.out,if_neg hm]);rw [HR.out];have hmi:¬(len:Int) % 24=0:=by omega
  have hmb:((len:Int) % 24==0)=false:=by simpa using hmi
  clear hb;go_enter Tryz.func117,Tryz.ntmps117
  go_wp2;go_ret2;exact ⟨⟨_,rfl,World.ownsRow_nil _ _ _ _⟩,Below.refl _ _⟩
theorem k6_ret_i64 {a b:Int} (h:a=b):Ending.returned (.int .i64 a)=.returned (.int .i64 b):=by rw [h]
theorem rcheck6_any (B:Nat) (a:Option Addr) (len cap:Nat) (L:List Sy) (w:World) (hs:Sy.Sl w B a len L) (hB:B≤w.heap.size) (hl:(len:Int)≤9223372036854775807) :
 Calls Tryz.prog 118 #[.slice a len cap] w fun e w'=>e=.returned (.int .i64 (checkY L))∧Below w.heap.size w w':=by
 obtain ⟨r,hr⟩:∃r,checkY L=r:=⟨_,rfl⟩
 rw [hr];have HG:Hid ((∀k,k<len→badY k (L.getD k Sy.zero)=false)→r=0):=Lib.hid (fun h=>hr▸checkY_good (by rw [hs.hl];exact h));have HX:Hid (∀k,k<len→badY k (L.getD k Sy.zero)=true→r=11):=Lib.hid (fun k hk h=>hr▸checkY_bad (by rw [hs.hl];exact hk) h);have HS:=Lib.hid hs;clear hr hs;go_enter Tryz.func118,Tryz.ntmps118
 go_wp2;go_loopw [3] (fun i wr=>∃k:Nat,k≤len∧i=.int .i64 k∧(∀j,j<k→badY j (L.getD j Sy.zero)=false)∧Below w.heap.size w wr) (fun i _=>len-(intOf i).toNat)
 case atStart=>exact ⟨0,Nat.zero_le _,rfl,fun j hj=>absurd hj (by omega),Below.refl _ _⟩
 case round=>
  obtain ⟨k,hk,rfl,hno,hbel⟩:=hrel;by_cases hlt:k<len
  ·obtain ⟨b,off,rfl,hbB,hcell⟩:=HS.out.hc (by omega);obtain ⟨c0,c1,c2,c3,c4,c5⟩:=(hcell k hlt).below (hbel.mono hB) hbB;have hok:=HS.out.okAt hlt;have HNX:=Lib.hid (bad_upto hno);have HBD:=Lib.hid (HX.out k hlt);have hlti:(k:Int)<len:=by omega
   have HBE:Hid (∀o,Below w.heap.size w (wr.alloc o)):=Lib.hid (fun o=>hbel.alloc hbel.size o);generalize L.getD k Sy.zero=s at c0 c1 c2 c3 c4 c5 hok HNX HBD;obtain ⟨⟨a0,a1⟩,⟨b0,b1⟩,⟨o0,o1⟩,⟨d0,d1⟩,⟨e0,e1⟩,⟨f0,f1⟩⟩:=hok;obtain ⟨na,inf,ot,se,va,si⟩:=s;simp only at c0 c1 c2 c3 c4 c5 a0 a1 b0 b1 o0 o1 d0 d1 e0 e1 f0 f1;have hbw:b<wr.heap.size:=by have:=hbel.size;omega
   clear hcell hno hbel;by_cases hk0:k=0
   ·subst hk0;rw [show ((0:Nat):Int)=0 from rfl];simp only [Nat.zero_mul,Nat.add_zero] at c0 c1 c2 c3 c4 c5;go_wp2;all_goals (try simp only [beq_eq_false_iff_ne,beq_iff_eq,bne_iff_ne,bne_eq_false_iff_eq,ne_eq] at *)
    all_goals first
     | (go_ret
        refine ⟨k6_ret_i64 (HBD.out ?_).symm,HBE.out _⟩;unfold badY;rw [if_pos rfl,decide_eq_true_eq];simp only
        omega)
     | (refine ⟨⟨1,by omega,by go_num,HNX.out ?_,HBE.out _⟩,by (simp [intOf]<;>omega)⟩
        unfold badY;rw [if_pos rfl,decide_eq_false_iff_not];simp only
        omega)
   ·have hk0b:((k:Int)==0)=false:=by simpa using hk0
    go_wp2;all_goals (try simp only [beq_eq_false_iff_ne,beq_iff_eq,bne_iff_ne,bne_eq_false_iff_eq,ne_eq] at *)
    all_goals first
     | (go_ret
        refine ⟨k6_ret_i64 (HBD.out ?_).symm,HBE.out _⟩;unfold badY;rw [if_neg hk0,decide_eq_true_eq];simp only
        omega)
     | (refine ⟨⟨k+1,by omega,by go_num,HNX.out ?_,HBE.out _⟩,by (simp [intOf]<;>omega)⟩
        unfold badY;rw [if_neg hk0,decide_eq_false_iff_not];simp only
        omega)
  ·obtain rfl:k=len:=by omega
   have HB:=Lib.hid hbel;have HN:=Lib.hid (HG.out hno);clear hbel hno;go_wp2;go_ret;exact ⟨k6_ret_i64 HN.out.symm,HB.out⟩
theorem k7_ret_i64 {a b:Int} (h:a=b):Ending.returned (.int .i64 a)=.returned (.int .i64 b):=by rw [h]
theorem info_rel:(Tryz.prog.info? 78).map (fun i=>(i.zero,i.size,i.bytes))=some (some (.agg #[.int .u64 0,.int .u32 0,.int .u32 0,.int .i64 0]),4,24):=by kernel_rfl
theorem k7_one_cells (s:Rl):∀u∈[Value.int .u64 s.of,.int .u32 s.ty,.int .u32 s.sy,.int .i64 s.ad],u.oneCell'=true:=by
 intro u hu;simp only [List.mem_cons,List.not_mem_nil,or_false] at hu;rcases hu with rfl | rfl | rfl | rfl<;>rfl
theorem k7_cells_new (w:World) (L:List Value) (t:TypeId) (g:Nat) (hg:g=w.heap.size):∀(j:Nat) (u:Value),L[j]?=some u→(w.alloc (.cells L.toArray t)).cell? ((⟨g,0,none⟩:Addr).add j)=some u:=by
 intro j u hj;subst hg;rw [add_none,Nat.zero_add,(Blk.new w _ _).cell];simpa using hj
theorem rtable7_any (B:Nat) (a:Option Addr) (len cap:Nat) (zs:List Int) (w:World) (hb:Bys w B a len zs) (hB:B≤w.heap.size) (hl:len≤140737488355328) :
 Calls Tryz.prog 119 #[.slice a len cap] w fun r w'=>(∃u,r=.returned (.tuple #[u,.int .i64 (tabL zs).1])∧w'.ownsRow w.heap.size 78 4 u (tabL zs).2.length (Rl.flat (tabL zs).2))∧Below w.heap.size w w':=by
 obtain ⟨i0,hi,hz0,hz1,hz2⟩:=info_parts info_rel;have HI:=Lib.hid hi;have HZ0:=Lib.hid hz0;have HZ1:=Lib.hid hz1;have HZ2:=Lib.hid hz2;have HZB:=Lib.hid hb.2.1;have HZL:=Lib.hid hb.1;have HBY:=Lib.hid hb;have hli:(len:Int)≤140737488355328:=by omega
 clear hi hz0 hz1 hz2;by_cases hm:len % 24=0
 ·have HR:Hid (tabL zs=(0,k7_tabR zs (len / 24))):=Lib.hid (by unfold tabL;rw [HZL.out,if_pos hm]);rw [HR.out];have hmi:(len:Int) % 24=0:=by omega
  have HTL:=Lib.hid (tabR_len zs (len / 24));obtain ⟨n,hn⟩:∃n,len / 24=n:=⟨_,rfl⟩
  rw [hn] at HTL HR⊢;have hln1:len≤24*n:=by omega
  have hln2:24*n≤len:=by omega
  clear hb hn hm;go_enter Tryz.func119,Tryz.ntmps119
  go_wp2;simp only [hmi];go_loopw [4,5] (fun v i wr=>∃k:Nat,k≤n∧i=.int .i64 (24*(k:Int))∧wr.ownsRow w.heap.size 78 4 v k (Rl.flat (k7_tabR zs k))∧Below w.heap.size w wr) (fun _ i _=>24*n-(intOf i).toNat)
  case atStart=>exact ⟨0,Nat.zero_le _,rfl,World.ownsRow_nil _ _ _ _,Below.refl _ _⟩
  case round=>
   obtain ⟨k,hk,rfl,hown,hbel⟩:=hrel;by_cases hlt:k<n
   ·have hki:24*(k:Int)<24*n:=by omega
    have hkl:24*(k:Int)<len:=by omega
    have hkl2:24*(k:Int)+24≤len:=by omega
    have HBYW:=Lib.hid (HBY.out.below (hbel.mono hB));have hsz:=hbel.size;obtain ⟨x0,hx0⟩:∃x,num (piece zs (24*k) 8)=x:=⟨_,rfl⟩
    obtain ⟨x1,hx1⟩:∃x,num (piece zs (24*k+8) 8)=x:=⟨_,rfl⟩
    obtain ⟨x2,hx2⟩:∃x,num (piece zs (24*k+16) 8)=x:=⟨_,rfl⟩
    have HG1:Hid (Calls Tryz.prog 107 #[.slice a len cap,.int .u64 (24*(k:Int)),.int .i64 8] wr fun e w'=>e=.returned (.tuple #[.int .u64 x0,.int .i64 0])∧wr=w'):=Lib.hid (by
     have h:=rget_ok B _ len cap zs (24*k) 8 wr HBYW.out (by decide) (by omega) (by omega);rw [show ((24*k:Nat):Int)=24*(k:Int) by omega,hx0] at h;exact h)
    have HG2:Hid (Calls Tryz.prog 107 #[.slice a len cap,.int .u64 (24*(k:Int)+8),.int .i64 8] wr fun e w'=>e=.returned (.tuple #[.int .u64 x1,.int .i64 0])∧wr=w'):=Lib.hid (by
     have h:=rget_ok B _ len cap zs (24*k+8) 8 wr HBYW.out (by decide) (by omega) (by omega);rw [show ((24*k+8:Nat):Int)=24*(k:Int)+8 by omega,hx1] at h;exact h)
    have HG3:Hid (Calls Tryz.prog 107 #[.slice a len cap,.int .u64 (24*(k:Int)+16),.int .i64 8] wr fun e w'=>e=.returned (.tuple #[.int .u64 x2,.int .i64 0])∧wr=w'):=Lib.hid (by
     have h:=rget_ok B _ len cap zs (24*k+16) 8 wr HBYW.out (by decide) (by omega) (by omega);rw [show ((24*k+16:Nat):Int)=24*(k:Int)+16 by omega,hx2] at h;exact h)
    have HTS:Hid (k7_tabR zs (k+1)=k7_tabR zs k++[⟨x0,x1 % 4294967296,x1 / 4294967296,wrap64 x2⟩]):=Lib.hid (by
     rw [tabR_succ,←hx0,←hx1,←hx2,←IntWalk.i64_left];rfl)
    have n1:=num_piece_lt (p:=24*k+8) (k:=8) HZB.out (by have:=HZL.out;omega);rw [hx1] at n1;have n10:0≤x1:=by omega
    have n11:x1≤18446744073709551615:=by omega
    have hw1:IntKind.u32.wrap (x1 % 4294967296)=x1 % 4294967296:=by rw [IntKind.wrap_u32];omega
    have hw2:IntKind.u32.wrap (x1 / 4294967296)=x1 / 4294967296:=by rw [IntKind.wrap_u32];omega
    have HOC:=Lib.hid (k7_one_cells ⟨x0,x1 % 4294967296,x1 / 4294967296,wrap64 x2⟩);have HOWN:=Lib.hid hown;have HBE:=Lib.hid hbel;clear hown hbel hx0 hx1 hx2 n1;go_wp2_with (first | (go_at_call 107;with_reducible refine HG1.out.mono ?_;rintro e w' ⟨rfl,rfl⟩) | (go_at_call 107;with_reducible refine HG2.out.mono ?_;rintro e w' ⟨rfl,rfl⟩) | (go_at_call 107;with_reducible refine HG3.out.mono ?_;rintro e w' ⟨rfl,rfl⟩) | (at_builtin;refine wpList_append_own _ rfl _ _ 30 rfl w.heap.size 78 i0 _ 4 24 Tryz.underlying30 HI.out HZ0.out HZ1.out HZ2.out rfl (by decide) _ k _ rfl (World.ownsRow.alloc HOWN.out _) ⟨wr.heap.size,0,none⟩ 1 1 [.int .u64 x0,.int .u32 (x1 % 4294967296),.int .u32 (x1 / 4294967296),.int .i64 (wrap64 x2)] rfl rfl ?c1 ?c2 ?c3 ?c4 ?c5 ?_));case c1=>exact k7_cells_new wr [.int .u64 x0,.int .u32 (x1 % 4294967296),.int .u32 (x1 / 4294967296),.int .i64 (wrap64 x2)] _ _ rfl
    case c2=>exact HOC.out
    case c3=>unfold maxLen;omega
    case c4=>omega
    case c5=>simp;omega
    intro v2 w2 hown2 hg2 hnil2;have hb2:Below w.heap.size w w2:=(HBE.out.alloc (by omega) _).grown hg2 (by simp;omega) (fun q e=>(HOWN.out.lt q e).1);have HO2:Hid (w2.ownsRow w.heap.size 78 4 v2 (k+1) (Rl.flat (k7_tabR zs (k+1)))):=Lib.hid (by
     rw [HTS.out,Rl.flat_snoc];exact hown2)
    clear hown2 hg2 hnil2;go_wp2;go_roundw
    case rel=>exact ⟨k+1,by omega,by go_num,HO2.out,hb2⟩
    case measure=>(simp [intOf]<;>omega)
   ·obtain rfl:n=k:=by omega
    have hkl:¬24*(n:Int)<len:=by omega
    have HO2:Hid (wr.ownsRow w.heap.size 78 4 _ (k7_tabR zs n).length (Rl.flat (k7_tabR zs n))):=Lib.hid (by rw [HTL.out];exact hown);clear hown;go_wp2;go_ret2;exact ⟨⟨_,rfl,HO2.out⟩,hbel⟩
 ·have HR:Hid (tabL zs=(10,[])):=Lib.hid (by unfold tabL;rw [HZL.out,if_neg hm]);rw [HR.out];have hmi:¬(len:Int) % 24=0:=by omega
  have hmb:((len:Int) % 24==0)=false:=by simpa using hmi
  clear hb;go_enter Tryz.func119,Tryz.ntmps119
  go_wp2;go_ret2;exact ⟨⟨_,rfl,World.ownsRow_nil _ _ _ _⟩,Below.refl _ _⟩
theorem known7_any (t:Int) (w:World):Calls Tryz.prog 153 #[.int .u32 t] w fun r w'=>r=.returned (.bool (knownL t))∧w=w':=by
 obtain ⟨r,hr⟩:∃r,knownL t=r:=⟨_,rfl⟩
 rw [hr];have HR:=Lib.hid hr;clear hr;have he:∀n:Int,t=n→∀b,knownL n=b→knownL t=b:=fun n h b hb=>h▸hb;by_cases h0:t=0
 ·subst h0;go_enter Tryz.func153,Tryz.ntmps153
  go_wp2;go_ret;exact ⟨by rw [←HR.out];rfl,rfl⟩
 ·by_cases h1:t=1∨t=6∨t=7∨t=8∨t=16∨t=17∨t=18
  ·rcases h1 with rfl | rfl | rfl | rfl | rfl | rfl | rfl
   all_goals
    go_enter Tryz.func153,Tryz.ntmps153
    go_wp2;go_ret;exact ⟨by rw [←HR.out];rfl,rfl⟩
  ·have g0:(t==0)=false:=by simpa using h0
   have g1:(t==1)=false:=by simp;omega
   have g2:(t==6)=false:=by simp;omega
   have g3:(t==7)=false:=by simp;omega
   have g4:(t==8)=false:=by simp;omega
   have g5:(t==16)=false:=by simp;omega
   have g6:(t==17)=false:=by simp;omega
   have g7:(t==18)=false:=by simp;omega
   have HK:Hid (r=false):=Lib.hid (by
    rw [←HR.out];unfold knownL;rw [decide_eq_false_iff_not];omega)
   clear h0 h1 he;go_enter Tryz.func153,Tryz.ntmps153
   go_wp2;go_ret;exact ⟨by rw [HK.out];rfl,rfl⟩
theorem rcheck7_any (B:Nat) (a:Option Addr) (len cap:Nat) (L:List Rl) (n:Int) (w:World) (hs:Rl.Sl w B a len L) (hB:B≤w.heap.size) (hl:(len:Int)≤9223372036854775807) (hn0:-9223372036854775808≤n) (hn1:n≤9223372036854775807) :
 Calls Tryz.prog 120 #[.slice a len cap,.int .i64 n] w fun e w'=>e=.returned (.int .i64 (checkL L n))∧Below w.heap.size w w':=by
 obtain ⟨r,hr⟩:∃r,checkL L n=r:=⟨_,rfl⟩
 rw [hr];have HG:Hid ((∀k,k<len→errL (L.getD k Rl.zero) n=0)→r=0):=Lib.hid (fun h=>hr▸checkL_good (by rw [hs.hl];exact h));have HX:Hid (∀k,k<len→(∀j,j<k→errL (L.getD j Rl.zero) n=0)→∀e,errL (L.getD k Rl.zero) n=e→e≠0→r=e):=Lib.hid (fun k hk h0 e he h=>by
  subst he;exact hr▸checkL_bad (by rw [hs.hl];exact hk) h0 h)
 have HS:=Lib.hid hs;clear hr hs;go_enter Tryz.func120,Tryz.ntmps120
 go_wp2;go_loopw [5] (fun i wr=>∃k:Nat,k≤len∧i=.int .i64 k∧(∀j,j<k→errL (L.getD j Rl.zero) n=0)∧Below w.heap.size w wr) (fun i _=>len-(intOf i).toNat)
 case atStart=>exact ⟨0,Nat.zero_le _,rfl,fun j hj=>absurd hj (by omega),Below.refl _ _⟩
 case round=>
  obtain ⟨k,hk,rfl,hno,hbel⟩:=hrel;by_cases hlt:k<len
  ·obtain ⟨b,off,rfl,hbB,hcell⟩:=HS.out.hc (by omega);obtain ⟨c0,c1,c2,c3⟩:=(hcell k hlt).below (hbel.mono hB) hbB;have hok:=HS.out.okAt hlt;have HNX:=Lib.hid (good_upto hno);have HBD:=Lib.hid (HX.out k hlt hno);have hlti:(k:Int)<len:=by omega
   have HBE:=Lib.hid hbel;generalize L.getD k Rl.zero=s at c0 c1 c2 c3 hok HNX HBD;obtain ⟨⟨a0,a1⟩,⟨b0,b1⟩,⟨o0,o1⟩,⟨d0,d1⟩⟩:=hok;obtain ⟨of,ty,sy,ad⟩:=s;simp only at c0 c1 c2 c3 a0 a1 b0 b1 o0 o1 d0 d1;have hbw:b<wr.heap.size:=by have:=hbel.size;omega
   have HK:=Lib.hid (fun w1=>known7_any ty w1);have HEQ:Hid (errL ⟨of,ty,sy,ad⟩ n=if knownL ty=false then 33 else if 0<sy∧(n<0∨n≤sy) then 10 else if ((ty=0∨ty=8)∧sy≠0)∨(¬(ty=0∨ty=8)∧sy=0) then 11 else 0):=Lib.hid rfl;clear hcell hno hbel;cases hkn:knownL ty with
   | false=>
     rw [hkn] at HK HEQ;have HR:=Lib.hid (HBD.out 33 (by rw [HEQ.out,if_pos rfl]) (by decide));clear HEQ HBD HNX;go_wp2_with (go_at_call 153;refine (HK.out _).mono ?_;rintro e w' ⟨rfl,rfl⟩);go_ret;exact ⟨k7_ret_i64 HR.out.symm,HBE.out⟩
   | true=>
     rw [hkn] at HK HEQ;by_cases hsy:sy=0
     ·subst hsy;by_cases hty0:ty=0
      ·subst hty0;have HR:=Lib.hid (HNX.out (by rw [HEQ.out,if_neg (by decide),if_neg (by omega),if_neg (by omega)]));clear HEQ HBD HNX;go_wp2_with (go_at_call 153;refine (HK.out _).mono ?_;rintro e w' ⟨rfl,rfl⟩);go_quiet (fail)
       go_wp2;go_roundw
       case rel=>exact ⟨k+1,by omega,by go_num,HR.out,below_drewN HBE.out _⟩
       case measure=>(simp [intOf]<;>omega)
      ·have htyb:(ty==0)=false:=by simpa using hty0
       by_cases hty8:ty=8
       ·subst hty8;have HR:=Lib.hid (HNX.out (by rw [HEQ.out,if_neg (by decide),if_neg (by omega),if_neg (by omega)]));clear HEQ HBD HNX;go_wp2_with (go_at_call 153;refine (HK.out _).mono ?_;rintro e w' ⟨rfl,rfl⟩);go_quiet (fail)
        go_wp2;go_roundw
        case rel=>exact ⟨k+1,by omega,by go_num,HR.out,below_drewN HBE.out _⟩
        case measure=>(simp [intOf]<;>omega)
       ·have htyc:(ty==8)=false:=by simpa using hty8
        have HR:=Lib.hid (HBD.out 11 (by rw [HEQ.out,if_neg (by decide),if_neg (by omega),if_pos (by omega)]) (by decide));clear HEQ HBD HNX;go_wp2_with (go_at_call 153;refine (HK.out _).mono ?_;rintro e w' ⟨rfl,rfl⟩);go_quiet (fail)
        go_wp2;go_ret;exact ⟨k7_ret_i64 HR.out.symm,below_drewN HBE.out _⟩
     ·have hsy0:0<sy:=by omega
      have hsyb:(sy==0)=false:=by simpa using hsy
      by_cases hn:n<0
      ·have HR:=Lib.hid (HBD.out 10 (by rw [HEQ.out,if_neg (by decide),if_pos ⟨hsy0,.inl hn⟩]) (by decide));clear HEQ HBD HNX;go_wp2_with (go_at_call 153;refine (HK.out _).mono ?_;rintro e w' ⟨rfl,rfl⟩);go_ret;exact ⟨k7_ret_i64 HR.out.symm,HBE.out⟩
      ·have hnw:IntKind.u64.wrap n=n:=by rw [IntKind.wrap_u64];omega
       by_cases hns:n≤sy
       ·have HR:=Lib.hid (HBD.out 10 (by rw [HEQ.out,if_neg (by decide),if_pos ⟨hsy0,.inr hns⟩]) (by decide));clear HEQ HBD HNX;go_wp2_with (go_at_call 153;refine (HK.out _).mono ?_;rintro e w' ⟨rfl,rfl⟩);go_ret;exact ⟨k7_ret_i64 HR.out.symm,HBE.out⟩
       ·have hng:¬(0<sy∧(n<0∨n≤sy)):=by omega
        by_cases hty0:ty=0
        ·subst hty0;have HR:=Lib.hid (HBD.out 11 (by rw [HEQ.out,if_neg (by decide),if_neg (by omega),if_pos (by omega)]) (by decide));clear HEQ HBD HNX;go_wp2_with (go_at_call 153;refine (HK.out _).mono ?_;rintro e w' ⟨rfl,rfl⟩);go_quiet (fail)
         go_wp2;go_ret;exact ⟨k7_ret_i64 HR.out.symm,below_drewN HBE.out _⟩
        ·have htyb:(ty==0)=false:=by simpa using hty0
         by_cases hty8:ty=8
         ·subst hty8;have HR:=Lib.hid (HBD.out 11 (by rw [HEQ.out,if_neg (by decide),if_neg (by omega),if_pos (by omega)]) (by decide));clear HEQ HBD HNX;go_wp2_with (go_at_call 153;refine (HK.out _).mono ?_;rintro e w' ⟨rfl,rfl⟩);go_quiet (fail)
          go_wp2;go_ret;exact ⟨k7_ret_i64 HR.out.symm,below_drewN HBE.out _⟩
         ·have htyc:(ty==8)=false:=by simpa using hty8
          have HR:=Lib.hid (HNX.out (by rw [HEQ.out,if_neg (by decide),if_neg (by omega),if_neg (by omega)]));clear HEQ HBD HNX;go_wp2_with (go_at_call 153;refine (HK.out _).mono ?_;rintro e w' ⟨rfl,rfl⟩);go_quiet (fail)
          go_wp2;go_roundw
          case rel=>exact ⟨k+1,by omega,by go_num,HR.out,below_drewN HBE.out _⟩
          case measure=>(simp [intOf]<;>omega)
  ·obtain rfl:k=len:=by omega
   have HB:=Lib.hid hbel;have HN:=Lib.hid (HG.out hno);clear hbel hno;go_wp2;go_ret;exact ⟨k7_ret_i64 HN.out.symm,HB.out⟩
def nm (L:List ByteArray) (i:Nat):ByteArray:=L.getD i .empty
def Seen (L:List ByteArray) (k:Nat) (s:ByteArray):Prop:=s=.empty∨∃i,i<k∧nm L i=s
def firstAt (L:List ByteArray) (s:ByteArray):Nat→Nat
 | 0=>0
 | k+1=>if firstAt L s k<k then firstAt L s k else if nm L k=s then k else k+1
theorem firstAt_le (L:List ByteArray) (s:ByteArray):∀k,firstAt L s k≤k
 | 0=>Nat.le_refl _
 | k+1=>by
   have:=firstAt_le L s k;unfold firstAt;split
   ·omega
   ·split<;>omega
theorem firstAt_hit {L:List ByteArray} {s:ByteArray}:∀{k:Nat},firstAt L s k<k→nm L (firstAt L s k)=s∧∀i,i<firstAt L s k→nm L i≠s
 | 0,h=>absurd h (Nat.not_lt_zero _)
 | k+1,h=>by
   by_cases h1:firstAt L s k<k
   ·have e:firstAt L s (k+1)=firstAt L s k:=by simp [firstAt,h1]
    rw [e];exact firstAt_hit h1
   ·have miss:∀k,¬firstAt L s k<k→∀i,i<k→nm L i≠s:=by
     intro k;induction k with
     | zero=>intro _ i hi;omega
     | succ k ih=>
       intro hk i hi;by_cases h2:firstAt L s k<k
       ·exact absurd (by simp [firstAt,h2];omega) hk
       ·by_cases h3:nm L k=s
        ·exact absurd (by simp [firstAt,h2,h3]) hk
        ·rcases Nat.lt_succ_iff_lt_or_eq.1 hi with h | rfl
         ·exact ih h2 i h
         ·exact h3
    by_cases h3:nm L k=s
    ·have e:firstAt L s (k+1)=k:=by simp [firstAt,h1,h3]
     rw [e];exact ⟨h3,miss k h1⟩
    ·exact absurd h (by simp [firstAt,h1,h3])
theorem firstAt_miss {L:List ByteArray} {s:ByteArray} {k:Nat} (h:¬firstAt L s k<k):∀i,i<k→nm L i≠s:=by
 induction k with
 | zero=>intro i hi;omega
 | succ k ih=>
   intro i hi;by_cases h2:firstAt L s k<k
   ·exact absurd (by simp [firstAt,h2];omega) h
   ·by_cases h3:nm L k=s
    ·exact absurd (by simp [firstAt,h2,h3]) h
    ·rcases Nat.lt_succ_iff_lt_or_eq.1 hi with h4 | rfl
     ·exact ih h2 i h4
     ·exact h3
theorem firstAt_stay {L:List ByteArray} {s:ByteArray} {k m:Nat} (h:firstAt L s k<k) (hm:k≤m):firstAt L s m=firstAt L s k:=by
 induction m with
 | zero=>omega
 | succ m ih=>
   rcases Nat.le_or_eq_of_le_succ hm with h1 | rfl
   ·have:=ih h1;simp [firstAt,this,show firstAt L s k<m from by omega]
   ·rfl
theorem firstAt_new {L:List ByteArray} {s:ByteArray} {k m:Nat} (h:∀i,i<k→nm L i≠s) (hk:nm L k=s) (hm:k<m):firstAt L s m=k:=by
 have h1:¬firstAt L s k<k:=fun hl=>h _ hl (firstAt_hit hl).1;have h2:firstAt L s (k+1)=k:=by simp [firstAt,h1,hk]
 rw [firstAt_stay (k:=k+1) (by omega) (by omega),h2]
def seenB (L:List ByteArray) (k:Nat) (s:ByteArray):Bool:=decide (s=.empty) || decide (firstAt L s k<k)
theorem seenB_iff (L:List ByteArray) (k:Nat) (s:ByteArray):seenB L k s=true↔Seen L k s:=by
 unfold seenB Seen;simp only [Bool.or_eq_true,decide_eq_true_eq];constructor
 ·rintro (h | h)
  ·exact .inl h
  ·exact .inr ⟨_,h,(firstAt_hit h).1⟩
 ·rintro (h | ⟨i,h1,h2⟩)
  ·exact .inl h
  ·refine .inr ?_;rcases Nat.lt_or_ge (firstAt L s k) k with h3 | h3
   ·exact h3
   ·exact absurd h2 (firstAt_miss (by omega) i h1)
theorem seenB_succ (L:List ByteArray) (k:Nat) (s:ByteArray):seenB L (k+1) s=(seenB L k s || decide (nm L k=s)):=by
 rw [Bool.eq_iff_iff,Bool.or_eq_true,seenB_iff,seenB_iff,decide_eq_true_eq];unfold Seen;constructor
 ·rintro (h | ⟨i,h1,h2⟩)
  ·exact .inl (.inl h)
  ·rcases Nat.lt_succ_iff_lt_or_eq.1 h1 with h3 | rfl
   ·exact .inl (.inr ⟨i,h3,h2⟩)
   ·exact .inr h2
 ·rintro ((h | ⟨i,h1,h2⟩) | h)
  ·exact .inl h
  ·exact .inr ⟨i,by omega,h2⟩
  ·exact .inr ⟨k,by omega,h⟩
def tab (L:List ByteArray):Nat→List Int
 | 0=>[0]
 | k+1=>if seenB L k (nm L k) then tab L k else tab L k++(bs (nm L k)++[0])
theorem tab_seen {L:List ByteArray} {k:Nat} (h:seenB L k (nm L k)=true):tab L (k+1)=tab L k:=by simp [tab,h]
theorem tab_new {L:List ByteArray} {k:Nat} (h:seenB L k (nm L k)=false):tab L (k+1)=tab L k++(bs (nm L k)++[0]):=by simp [tab,h]
theorem tab_bd (L:List ByteArray):∀k,∀n∈tab L k,0≤n∧n≤255
 | 0=>fun n hn=>by
   have h:n=0:=by simpa [tab] using hn
   omega
 | k+1=>by
   unfold tab;split
   ·exact tab_bd L k
   ·intro n hn;simp only [List.mem_append,List.mem_singleton] at hn;rcases hn with h | h | rfl
    ·exact tab_bd L k n h
    ·exact bs_bd _ n h
    ·decide
theorem tab_mono (L:List ByteArray) {k m:Nat} (h:k≤m):(tab L k).length≤(tab L m).length:=by
 induction m with
 | zero=>have:k=0:=by omega
         subst this;exact Nat.le_refl _
 | succ m ih=>
   rcases Nat.le_or_eq_of_le_succ h with h1 | rfl
   ·refine Nat.le_trans (ih h1) ?_;rw [tab];split
    ·exact Nat.le_refl _
    ·rw [List.length_append];omega
   ·exact Nat.le_refl _
def pos (L:List ByteArray) (k:Nat) (s:ByteArray):Nat:=if s=.empty then 0 else (tab L (firstAt L s k)).length
theorem pos_empty (L:List ByteArray) (k:Nat):pos L k .empty=0:=by simp [pos]
theorem pos_stay {L:List ByteArray} {k m:Nat} {s:ByteArray} (h:Seen L k s) (hm:k≤m):pos L m s=pos L k s:=by
 unfold pos;rcases h with rfl | ⟨i,h1,h2⟩
 ·simp
 ·split
  ·rfl
  ·rcases Nat.lt_or_ge (firstAt L s k) k with h3 | h3
   ·rw [firstAt_stay h3 hm]
   ·exact absurd h2 (firstAt_miss (by omega) i h1)
theorem pos_new {L:List ByteArray} {k:Nat} (h:seenB L k (nm L k)=false):pos L (k+1) (nm L k)=(tab L k).length:=by
 have h1:¬Seen L k (nm L k):=fun hs=>by rw [(seenB_iff L k _).2 hs] at h;cases h
 have hne:nm L k≠.empty:=fun e=>h1 (.inl e);unfold pos;rw [if_neg hne,firstAt_new (k:=k) (fun i hi e=>h1 (.inr ⟨i,hi,e⟩)) rfl (by omega)]
def outs (L:List ByteArray):Nat→List Int
 | 0=>[]
 | k+1=>outs L k++[(pos L (k+1) (nm L k):Int)]
theorem outs_len (L:List ByteArray):∀k,(outs L k).length=k
 | 0=>rfl
 | k+1=>by rw [outs,List.length_append,outs_len L k];rfl
theorem outs_getD (L:List ByteArray):∀{k i:Nat},i<k→(outs L k).getD i 0=(pos L k (nm L i):Int)
 | 0,i,h=>absurd h (Nat.not_lt_zero _)
 | k+1,i,h=>by
   rw [outs];rcases Nat.lt_succ_iff_lt_or_eq.1 h with h1 | rfl
   ·have e:(outs L k++[(pos L (k+1) (nm L k):Int)]).getD i 0=(outs L k).getD i 0:=by
     rw [List.getD_eq_getElem?_getD,List.getD_eq_getElem?_getD,List.getElem?_append_left (by rw [outs_len];exact h1)]
    rw [e,outs_getD L h1,pos_stay (k:=k) (m:=k+1) (.inr ⟨i,h1,rfl⟩) (by omega)]
   ·rw [List.getD_eq_getElem?_getD,List.getElem?_append_right (by rw [outs_len];exact Nat.le_refl _),outs_len,Nat.sub_self];rfl
def Clean (L:List ByteArray):Prop:=∀i,i<L.length→k2_NoZ (bs (nm L i))
theorem clean_or (L:List ByteArray):Clean L∨∃i k,i<L.length∧(∀j,j<i→k2_NoZ (bs (nm L j)))∧k2_FirstZ (bs (nm L i)) k:=by
 have h:∀m,(∀i,i<m→k2_NoZ (bs (nm L i)))∨∃i k,i<m∧(∀j,j<i→k2_NoZ (bs (nm L j)))∧k2_FirstZ (bs (nm L i)) k:=by
  intro m;induction m with
  | zero=>exact .inl fun i hi=>absurd hi (Nat.not_lt_zero _)
  | succ m ih=>
    rcases ih with h | ⟨i,k,h1,h2⟩
    ·rcases k2_firstZ_or (bs (nm L m)) with h3 | ⟨k,h3⟩
     ·refine .inl fun i hi=>?_;rcases Nat.lt_succ_iff_lt_or_eq.1 hi with h4 | rfl
      ·exact h i h4
      ·exact h3
     ·exact .inr ⟨m,k,by omega,h,h3⟩
    ·exact .inr ⟨i,k,by omega,h2⟩
 exact h L.length
end Go.Proofs.YtclgbdfkdbbinaaGreat
namespace Go.Proofs.YtclgbdfkdbbinaaGreat
open Go.RowKit Go.WideMaps Go.Maps
theorem law_str:Keyed Tryz.prog 9:=string_keyed Tryz.underlying9
theorem zero_u64 (w:World):(zeroValue 24).run Tryz.prog w=.ok (.int .u64 0) w:=by kernel_rfl
theorem wpList_insert_own {H:Type} {P:Program} (w:World) {ops:Array Oper} {rest:List Oper} {o:Oper} {a:Act} {Q:Exit→Act→World→Prop}
 (hg:o.guard=none) (m x v:Operand) (t:TypeId) (hop:o.op=Op.insert t m x v)
 (k e:TypeId) (K:Keyed P k) (ht:P.underlying t=some (.map k e)) (R:Value→Option (DataW H×List MemPlace)) (b n:Nat) (D:DataW H)
 (hm:a.eval m=.map (some b)) (hown:w.ownsMap P k R b n D) (hn:n<maxLen) (key val:Value) (kl:Lit) (hx:a.eval x=key) (hv:a.eval v=val) (hkey:keyOf P k key=some kl)
 (d:DataW H) (ps:List MemPlace) (hval:R val=some (d,ps))
 (hK:∀w',w'.ownsMap P k R b (n+1) (D.put kl d)→w.grownBy w' (some b)→wpList P ops Q rest (a.put o.dst undef) w') :
 wpList P ops Q (o :: rest) a w:=by
 refine wpList_plain hg fun K' hK'=>?_;obtain ⟨w',hrun,r1,r2⟩:=hown.update K ht hn hkey hval;unfold Oper.wp;simp [execOp,hop,hm,hx,hv,hrun,Result.andThen]
 exact hK' _ _ (hK w' r1 r2)
theorem own_apart {w:World} {b1 b2 n m:Nat} {e1 e2:TypeId} {v u:Value} {xs ys:List Value} (h:w.ownsRow b1 e1 1 v n xs) (k:w.ownsRow b2 e2 1 u m ys) (hne:e1≠e2):v.ownBlock=none∨v.ownBlock≠u.ownBlock:=by
 rcases h.2 with ⟨rfl,_⟩ | ⟨g,c,cur,rfl,_,hg,_⟩
 ·exact .inl rfl
 ·rcases k.2 with ⟨rfl,_⟩ | ⟨g',c',cur',rfl,_,hg',_⟩
  ·exact .inr (by simp [Value.ownBlock])
  ·refine .inr fun e=>?_;simp only [Value.ownBlock,Option.some.injEq] at e;subst e;rw [hg] at hg';injection hg' with hg';injection hg' with _ e2;exact hne e2
theorem map_apart {H:Type} {P:Program} {k:TypeId} {R:Value→Option (DataW H×List MemPlace)} {D:DataW H} {w:World} {b1 b n m:Nat} {e1:TypeId} {v:Value} {xs:List Value} (h:w.ownsRow b1 e1 1 v n xs) (hm:w.ownsMap P k R b m D):v.ownBlock≠some b:=by
 rcases h.2 with ⟨rfl,_⟩ | ⟨g,c,cur,rfl,_,hg,_⟩
 ·simp [Value.ownBlock]
 ·intro e;simp only [Value.ownBlock,Option.some.injEq] at e;subst e;obtain ⟨es,clock,hb,_⟩:=hm;rw [hg] at hb;cases hb
def key (s:ByteArray):Lit:=.string s.data.toList
theorem key_inj {s t:ByteArray} (h:key s=key t):s=t:=by
 unfold key at h;injection h with h;exact ByteArray.ext (Array.ext' h)
def u64d (n:Nat):DataW Unit:=.lit (.int .u64 n)
def MapOk (L:List ByteArray) (k:Nat) (D:DataW Unit):Prop:=
 IsMap D∧∀s:ByteArray,Maps.has D (key s)=seenB L k s∧(Seen L k s→D.atKey (key s) (u64d 0)=u64d (pos L k s))
theorem isKey (s:ByteArray):WideAt.IsKeyLit (key s):=by simp [key,WideAt.IsKeyLit]
theorem mapOk_zero (L:List ByteArray):MapOk L 0 ((DataW.map []).put (key .empty) (u64d 0)):=by
 refine ⟨isMap_empty.put _ _,fun s=>?_⟩;by_cases hs:s=.empty
 ·subst hs;refine ⟨?_,fun _=>?_⟩
  ·rw [has_put_same isMap_empty (isKey _),(seenB_iff L 0 _).2 (.inl rfl)]
  ·rw [atKey_put_same isMap_empty (isKey _),pos_empty]
 ·have hne:key s≠key .empty:=fun e=>hs (key_inj e);have hns:¬Seen L 0 s:=fun h=>h.elim hs (fun ⟨i,h,_⟩=>absurd h (Nat.not_lt_zero _));refine ⟨?_,fun h=>absurd h hns⟩;rw [has_put_other hne,Bool.eq_false_iff.2 (fun h=>hns ((seenB_iff L 0 s).1 h))];rfl
theorem mapOk_seen {L:List ByteArray} {k:Nat} {D:DataW Unit} (h:MapOk L k D) (hs:seenB L k (nm L k)=true):MapOk L (k+1) D:=by
 refine ⟨h.1,fun s=>?_⟩;by_cases he:nm L k=s
 ·subst he;refine ⟨by rw [seenB_succ,(h.2 _).1,hs];rfl,fun _=>?_⟩;have h1:=(seenB_iff _ _ _).1 hs;rw [(h.2 _).2 h1,pos_stay (m:=k+1) h1 (by omega)]
 ·have e:seenB L (k+1) s=seenB L k s:=by rw [seenB_succ];simp [he]
  refine ⟨by rw [e,(h.2 s).1],fun h1=>?_⟩;have h2:Seen L k s:=(seenB_iff _ _ _).1 (e▸(seenB_iff _ _ _).2 h1);rw [(h.2 s).2 h2,pos_stay (m:=k+1) h2 (by omega)]
theorem mapOk_new {L:List ByteArray} {k:Nat} {D:DataW Unit} (h:MapOk L k D) (hs:seenB L k (nm L k)=false):MapOk L (k+1) (D.put (key (nm L k)) (u64d (tab L k).length)):=by
 refine ⟨h.1.put _ _,fun s=>?_⟩;by_cases he:nm L k=s
 ·subst he;refine ⟨by rw [has_put_same h.1 (isKey _),seenB_succ];simp,fun _=>?_⟩;rw [atKey_put_same h.1 (isKey _),pos_new hs]
 ·have hne:key s≠key (nm L k):=fun e=>he (key_inj e).symm;have e:seenB L (k+1) s=seenB L k s:=by rw [seenB_succ];simp [he]
  refine ⟨by rw [has_put_other hne,e,(h.2 s).1],fun h1=>?_⟩;have h2:Seen L k s:=(seenB_iff _ _ _).1 (e▸(seenB_iff _ _ _).2 h1);rw [atKey_put_other hne,(h.2 s).2 h2,pos_stay (m:=k+1) h2 (by omega)]
theorem u64d_inj {n:Nat} {c:Int} (h:u64d n=.lit (.int .u64 c)):c=(n:Int):=by
 unfold u64d at h;injection h with h;injection h with h1 h2;exact h2.symm
theorem key_of {s:ByteArray} (h:s.size≤maxLen):keyOf Tryz.prog 9 (.string s)=some (key s):=keyOf_string_mk Tryz.underlying9 h
theorem wf_u64 {n:Nat} (h:n≤65536):(Lit.int .u64 (n:Int)).wf=true:=by
 simp [Lit.wf,IntKind.min,IntKind.max,IntKind.signed,IntKind.bits];omega
end Go.Proofs.YtclgbdfkdbbinaaGreat
