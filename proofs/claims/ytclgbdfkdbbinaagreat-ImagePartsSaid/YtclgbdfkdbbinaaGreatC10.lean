/-
  What is proved here: words and contracts, a part of those that the statement rests on (C10).
  Conditions: none but that the arguments are values of their types.
-/
import Derived.Test.YtclgbdfkdbbinaaGreatC9
import Derived.Test.YtclgbdfkdbbinaaGreatC1
import Derived.Test.YtclgbdfkdbbinaaGreatC2
import Derived.Test.YtclgbdfkdbbinaaGreatC8
import Derived.Laws.Rows
import Derived.Deep.WholeRow
import Derived.Deep.Cut
import Derived.Deep.DeepCutAuto
set_option linter.unusedVariables false
set_option linter.unusedSimpArgs false
set_option maxRecDepth 100000
set_option maxHeartbeats 12800000
namespace Go.Proofs.YtclgbdfkdbbinaaGreat
open Go.RowKit
def StepsY (P:Program) (ops:List Oper) (tg:Nat) (J:(Nat→Bool)→Value→World→Prop) (n:Nat) (x:List Value) (d:List Deferred) (dsts:List Nat) (R:World→World→Prop) (F:Nat→Value→World→Prop):Nat→List Oper→Prop
 | _,[]=>True
 | i,o :: l=>(∀(L:Nat→Bool) (y:Nat→Value) (w:World),J L (y tg) w→L i=false→(∀t,t ∉ dsts→y t=x.getD t undef)→(∀j,j∈preds o→L j=true∧(dsts.getD j 0<n→F j (y (dsts.getD j 0)) w))→
  (∀k q,ops[k]?=some q→L k=true→∀j,j∈preds q→L j=true)→(∀k,k<ops.length→L k=false→dsts.getD k 0<n→y (dsts.getD k 0)=x.getD (dsts.getD k 0) undef)→
  StepFact P o ⟨frameOf n y,d⟩ w fun u w'=>R w w'∧(dsts.getD i 0<n→F i u w')∧J (upd L i) (if dsts.getD i 0=tg then u else y tg) w')∧StepsY P ops tg J n x d dsts R F (i+1) l
theorem StepsY.get {P:Program} {ops:List Oper} {tg:Nat} {J:(Nat→Bool)→Value→World→Prop} {n:Nat} {x:List Value} {d:List Deferred} {dsts:List Nat} {R:World→World→Prop} {F:Nat→Value→World→Prop} :
 ∀{l:List Oper} {k:Nat},StepsY P ops tg J n x d dsts R F k l→∀i o,l[i]?=some o→
  ∀(L:Nat→Bool) (y:Nat→Value) (w:World),J L (y tg) w→L (k+i)=false→(∀t,t ∉ dsts→y t=x.getD t undef)→(∀j,j∈preds o→L j=true∧(dsts.getD j 0<n→F j (y (dsts.getD j 0)) w))→
   (∀k q,ops[k]?=some q→L k=true→∀j,j∈preds q→L j=true)→(∀k,k<ops.length→L k=false→dsts.getD k 0<n→y (dsts.getD k 0)=x.getD (dsts.getD k 0) undef)→
   StepFact P o ⟨frameOf n y,d⟩ w fun u w'=>R w w'∧(dsts.getD (k+i) 0<n→F (k+i) u w')∧J (upd L (k+i)) (if dsts.getD (k+i) 0=tg then u else y tg) w'
 | [],_,_,_,_,h=>by simp at h
 | o :: l,k,hs,0,o',h=>by
   simp only [List.getElem?_cons_zero,Option.some.injEq] at h;subst h;exact hs.1
 | o :: l,k,hs,i+1,o',h=>by
   rw [List.getElem?_cons_succ] at h;have:=hs.2.get i o' h
   rwa [show k+1+i=k+(i+1) from by omega] at this
section
variable {P:Program} {Q:Exit→Act→World→Prop}
theorem wpAny_y {l:List Oper} {x:List Value} {d:List Deferred} (dsts:List Nat) (R:World→World→Prop) (F:Nat→Value→World→Prop) (tg:Nat) (J:(Nat→Bool)→Value→World→Prop)
 (hmono:∀i u w w',F i u w→R w w'→F i u w') (hJ:∀L L' u w,(∀i,i<l.length→L i=L' i)→J L u w→J L' u w)
 (hok:invOk l dsts x.length=true) (hsteps:StepsY P l tg J x.length x d dsts R F 0 l)
 (hend:∀(v:Nat→Value) (L:Nat→Bool) (w:World),(∀i,dsts.getD i 0=tg→J L (v i) w)→(∀i,i<l.length→L i=true)→(∀i,i<l.length→dsts.getD i 0<x.length→F i (v i) w)→Q .normal ⟨(putAll v 0 dsts x).toArray,d⟩ w) :
 ∀(fuel:Nat) (listed:Array Bool) (y:Nat→Value) (w:World),left listed≤fuel→listed.size=l.length→(∀t,t ∉ dsts→y t=x.getD t undef)→
  (∀i,listed[i]?=some true→dsts.getD i 0<x.length→F i (y (dsts.getD i 0)) w)→J (fun i=>listed.getD i false) (y tg) w→
  (∀k q,l[k]?=some q→listed.getD k false=true→∀j,j∈preds q→listed.getD j false=true)→(∀k,k<l.length→listed.getD k false=false→dsts.getD k 0<x.length→y (dsts.getD k 0)=x.getD (dsts.getD k 0) undef)→wpAny P .any l.toArray Q fuel listed ⟨frameOf x.length y,d⟩ w:=by
 simp only [invOk,Bool.and_eq_true,decide_eq_true_eq,List.all_eq_true,List.mem_range] at hok;obtain ⟨⟨⟨hdl,hnd⟩,hfm⟩,hord⟩:=hok;have fin:∀(listed:Array Bool) (y:Nat→Value) (w:World),listed.size=l.length→(∀t,t ∉ dsts→y t=x.getD t undef)→
  (∀i,listed[i]?=some true→dsts.getD i 0<x.length→F i (y (dsts.getD i 0)) w)→J (fun i=>listed.getD i false) (y tg) w→(∀i,i<l.length→listed[i]?=some true)→Q .normal ⟨frameOf x.length y,d⟩ w:=by
  intro listed y w hsz hy hF hb hall;have h:=hend (fun i=>y (dsts.getD i 0)) _ w (fun i e=>by rw [e];exact hb) (fun i hi=>by rw [Array.getD_eq_getD_getElem?,hall i hi];rfl) (fun i hi hn=>hF i (hall i hi) hn);have e:(putAll (fun i=>y (dsts.getD i 0)) 0 dsts x).toArray=frameOf x.length y:=by
   obtain ⟨h1,h2,h3⟩:=putAll_get' (fun i=>y (dsts.getD i 0)) dsts 0 x hnd;apply Array.ext_getElem?
   intro t;rw [List.getElem?_toArray];by_cases ht:t<x.length
   ·rw [frameOf_get _ _ _ ht];by_cases hm:t∈dsts
    ·obtain ⟨j,hj,hjt⟩:=List.getElem_of_mem hm;have hj':dsts[j]?=some t:=by rw [List.getElem?_eq_getElem hj,hjt]
     have hjd:dsts.getD j 0=t:=by rw [List.getD_eq_getElem?_getD,hj'];rfl
     rw [h2 j t hj' ht,Nat.zero_add];simp only [hjd]
    ·rw [h3 t hm,hy t hm,List.getD_eq_getElem?_getD,List.getElem?_eq_getElem ht];rfl
   ·rw [List.getElem?_eq_none (by omega),Array.getElem?_eq_none (by rw [frameOf_size];omega)]
  rw [e] at h;exact h
 intro fuel;induction fuel with
 | zero=>
   intro listed y w hf hsz hy hF hb hcl hun;have hall:∀i,i<l.length→listed[i]?=some true:=fun i hi=>by
    have:=left_zero listed.toList (by unfold left at hf;omega) i (by rw [Array.length_toList,hsz];exact hi);simpa using this
   refine ⟨?_,fin listed y w hsz hy hF hb hall⟩;apply List.eq_nil_iff_forall_not_mem.2
   intro j hj;obtain ⟨h0,o,ho,_⟩:=mem_ready.1 hj;have hjl:j<l.length:=by
    have:=(Array.getElem?_eq_some_iff.1 ho).1;simpa using this
   rw [Array.getD_eq_getD_getElem?,hall j hjl] at h0;cases h0
 | succ fuel ih=>
   intro listed y w hf hsz hy hF hb hcl hun;refine ⟨fun hr=>?_,fun i hi=>?_⟩
   ·refine fin listed y w hsz hy hF hb ?_;intro i;induction i using Nat.strongRecOn with
    | ind i ihi=>
      intro hi;cases hli:listed[i]? with
      | none=>rw [Array.getElem?_eq_none_iff] at hli;omega
      | some b=>
        cases b with
        | true=>rfl
        | false=>
          exfalso
          have:i∈Region.ready .any l.toArray listed:=by
           refine mem_ready.2 ⟨by rw [Array.getD_eq_getD_getElem?,hli];rfl,l[i],by rw [List.getElem?_toArray,List.getElem?_eq_getElem hi],fun e he hbe=>?_⟩;have h1:=hord i hi;rw [List.getElem?_eq_getElem hi] at h1;have h2:=List.all_eq_true.1 h1 e (by simpa using he);rw [hbe] at h2;have h3:e.on<i:=by simpa using h2
           rw [Array.getD_eq_getD_getElem?,ihi e.on h3 (by omega)];rfl
          rw [hr] at this;cases this
   ·obtain ⟨h0,o,ho,hall⟩:=mem_ready.1 hi;have ho':l[i]?=some o:=by simpa using ho
    have hil:i<l.length:=(List.getElem?_eq_some_iff.1 ho').1;have hli:listed[i]?=some false:=by
     cases hli:listed[i]? with
     | none=>rw [Array.getElem?_eq_none_iff] at hli;omega
     | some b=>rw [Array.getD_eq_getD_getElem?,hli] at h0;rw [show b=false from h0]
    have hst:=hsteps.get i o ho' (fun i=>listed.getD i false) y w hb (by rw [Nat.zero_add];show listed.getD i false=false;rw [Array.getD_eq_getD_getElem?,hli];rfl) hy (fun j hj=>by
     unfold preds at hj;obtain ⟨e,he,rfl⟩:=List.mem_map.1 hj;obtain ⟨he1,he2⟩:=List.mem_filter.1 he;have hl:=hall e (by simpa using he1) he2;refine ⟨hl,hF e.on ?_⟩;cases hle:listed[e.on]? with
     | none=>rw [Array.getD_eq_getD_getElem?,hle] at hl;cases hl
     | some b=>rw [Array.getD_eq_getD_getElem?,hle] at hl;rw [show b=true from hl]) hcl hun
    rw [Nat.zero_add] at hst;obtain ⟨t,ht⟩:∃t,dsts[i]?=some t:=⟨dsts[i]'(by omega),List.getElem?_eq_getElem (by omega)⟩
    have htd:dsts.getD i 0=t:=by rw [List.getD_eq_getElem?_getD,ht];rfl
    have hfi:=hfm i hil;rw [ho',ht] at hfi;simp only [Bool.and_eq_true,Bool.or_eq_true,decide_eq_true_eq] at hfi;obtain ⟨hgd,hfi⟩:=hfi;have after:∀u w',(R w w'∧(dsts.getD i 0<x.length→F i u w')∧J (upd (fun i=>listed.getD i false) i) (if dsts.getD i 0=tg then u else y tg) w')→wpAny P .any l.toArray Q fuel (listed.setIfInBounds i true) (Act.put ⟨frameOf x.length y,d⟩ o.dst u) w':=by
     rintro u w' ⟨hR,hu,hJw⟩;rw [htd] at hu;have ea:(Act.put ⟨frameOf x.length y,d⟩ o.dst u)=⟨frameOf x.length (fun s=>if s=t then u else y s),d⟩:=by
      rcases hfi with ⟨h1,h2⟩ | ⟨h1,h2⟩
      ·rw [h1];simp only [Act.put,frameOf_set]
      ·have:o.dst=none:=by simpa using h1
       rw [this];simp only [Act.put]
       congr 1
       apply Array.ext_getElem?
       intro s;by_cases hs:s<x.length
       ·rw [frameOf_get _ _ _ hs,frameOf_get _ _ _ hs,if_neg (by omega)]
       ·rw [Array.getElem?_eq_none (by rw [frameOf_size];omega),Array.getElem?_eq_none (by rw [frameOf_size];omega)]
     rw [ea];have hlf:=left_set listed.toList i (by simpa using hli);have hup:∀j,(listed.setIfInBounds i true).getD j false=if j=i then true else listed.getD j false:=by
      intro j;by_cases hji:j=i
      ·subst hji;rw [if_pos rfl,Array.getD_eq_getD_getElem?,Array.getElem?_setIfInBounds_self_of_lt (by omega)];rfl
      ·rw [if_neg hji,Array.getD_eq_getD_getElem?,Array.getD_eq_getD_getElem?,Array.getElem?_setIfInBounds_ne (Ne.symm hji)]
     refine ih _ _ _ ?_ (by rw [Array.size_setIfInBounds,hsz]) ?_ ?_ (hJ _ _ _ _ ?_ (by rw [htd] at hJw;show J _ (if tg=t then u else y tg) w';by_cases e:t=tg;rw [if_pos e] at hJw;rw [if_pos e.symm];exact hJw;rw [if_neg e] at hJw;rw [if_neg (Ne.symm e)];exact hJw)) ?_ ?_
     ·unfold left at hf⊢;rw [Array.toList_setIfInBounds];omega
     ·intro s hs;have hst:s≠t:=fun e=>hs (e▸List.mem_of_getElem? ht);simp only [hst,if_false];exact hy s hs
     ·intro j hj hjt;by_cases hji:j=i
      ·subst hji;rw [htd] at hjt⊢;simpa using hu hjt
      ·rw [Array.getElem?_setIfInBounds_ne (Ne.symm hji)] at hj;have hjl:j<dsts.length:=by
        have:=(Array.getElem?_eq_some_iff.1 hj).1;omega
       have hne:dsts.getD j 0≠t:=by
        rw [List.getD_eq_getElem?_getD,List.getElem?_eq_getElem hjl];intro e;have hit:dsts[i]'(by omega)=t:=(List.getElem?_eq_some_iff.1 ht).2;have:=nodup_inj hnd j i hjl (by omega) (show dsts[j]=dsts[i]'(by omega) from by rw [hit];simpa using e);exact hji this
       simp only [hne,if_false];exact hmono _ _ _ _ (hF j hj hjt) hR
     ·intro j hj;by_cases hji:j=i
      ·subst hji;rw [upd_same,Array.getD_eq_getD_getElem?,Array.getElem?_setIfInBounds_self_of_lt (by omega)];rfl
      ·rw [upd_other _ hji,Array.getD_eq_getD_getElem?,Array.getD_eq_getD_getElem?,Array.getElem?_setIfInBounds_ne (Ne.symm hji)]
     ·intro k q hk hLk j hj;rw [hup] at hLk⊢;by_cases hji:j=i
      ·rw [if_pos hji]
      ·rw [if_neg hji];by_cases hki:k=i
       ·subst hki;rw [ho'] at hk;injection hk with hk;subst hk;unfold preds at hj;obtain ⟨e,he,rfl⟩:=List.mem_map.1 hj;obtain ⟨he1,he2⟩:=List.mem_filter.1 he;have hl:=hall e (by simpa using he1) he2;cases hle:listed[e.on]? with
        | none=>rw [Array.getD_eq_getD_getElem?,hle] at hl;cases hl
        | some b=>rw [Array.getD_eq_getD_getElem?,hle] at hl⊢;exact hl
       ·rw [if_neg hki] at hLk;exact hcl k q hk hLk j hj
     ·intro k hk hLk hkn;rw [hup] at hLk;by_cases hki:k=i
      ·rw [if_pos hki] at hLk;cases hLk
      ·rw [if_neg hki] at hLk;have hne:dsts.getD k 0≠t:=by
        rw [List.getD_eq_getElem?_getD,List.getElem?_eq_getElem (by omega)];intro e;have hit:dsts[i]'(by omega)=t:=(List.getElem?_eq_some_iff.1 ht).2;have:=nodup_inj hnd k i (by omega) (by omega) (show dsts[k]'(by omega)=dsts[i]'(by omega) from by rw [hit];simpa using e);exact hki this
       simp only [hne,if_false];exact hun k hk hLk hkn
    unfold wpOp;rw [ho];simp only
    have hw:Region.wanted o (yielded l.toArray (frameOf x.length y))=true:=by
     have:o.guard=none:=by simpa using hgd
     unfold Region.wanted;rw [this]
    rw [if_pos hw];exact .inl (hst _ _ after)
theorem wp_region_y {id:Nat} {l:List Oper} {x:List Value} {d:List Deferred} {w:World} (hm:P.follows .mixedOrders=true) (n:Nat) (hn:x.length=n) (dsts:List Nat) (R:World→World→Prop) (F:Nat→Value→World→Prop) (tg:Nat) (J:(Nat→Bool)→Value→World→Prop)
 (hmono:∀i u w w',F i u w→R w w'→F i u w') (hJ:∀L L' u w,(∀i,i<l.length→L i=L' i)→J L u w→J L' u w)
 (hok:invOk l dsts n=true) (hst:J (fun _=>false) (x.getD tg undef) w.drew) (hsteps:StepsY P l tg J n x d dsts R F 0 l)
 (hend:∀(v:Nat→Value) (L:Nat→Bool) (w':World),(∀i,dsts.getD i 0=tg→J L (v i) w')→(∀i,i<l.length→L i=true)→(∀i,i<l.length→dsts.getD i 0<n→F i (v i) w')→Q .normal ⟨(putAll v 0 dsts x).toArray,d⟩ w') :
 (Code.region id l.toArray true).wp P Q ⟨x.toArray,d⟩ w:=by
 subst hn;refine wp_region_any hm ?_;change wpAny P .any l.toArray Q _ _ _ w.drew;rw [frameOf_list x];have hl:∀n,((List.replicate n false).filter (!·)).length=n:=fun n=>by induction n with
  | zero=>rfl
  | succ n ih=>rw [List.replicate_succ];simp
 refine wpAny_y dsts R F tg J hmono hJ hok hsteps hend _ _ _ _ ?_ (by simp) (fun t ht=>rfl) ?_ (hJ _ _ _ _ ?_ hst) (fun k q hk hLk=>?_) (fun k hk _ _=>rfl)
 ·unfold left;rw [Array.toList_replicate,hl];exact Nat.le_refl _
 ·intro i hi;rw [Array.getElem?_replicate] at hi;split at hi<;>cases hi
 ·intro i hi;rw [Array.getD_eq_getD_getElem?,Array.getElem?_replicate];split<;>rfl
 ·rw [Array.getD_eq_getD_getElem?,Array.getElem?_replicate] at hLk;split at hLk<;>cases hLk
end
def Jy (i j:Nat) (wd:World) (T:TypeId) (V:Array Value) (L:Nat→Bool) (u:Value) (w:World):Prop:=
 Below wd.heap.size wd w∧(L i=true→∃g C,u=.pointer (some ⟨g,0,none⟩)∧wd.heap.size≤g∧Blk w g C T∧C.size=V.size∧(L j=true→C=V))
theorem Jy.congr {i j m:Nat} {wd:World} {T:TypeId} {V:Array Value} (hi:i<m) (hj:j<m):∀L L' u w,(∀k,k<m→L k=L' k)→Jy i j wd T V L u w→Jy i j wd T V L' u w:=by
 intro L L' u w h hJ;unfold Jy at *;rw [←h i hi,←h j hj];exact hJ
theorem Jy.pure {i j k:Nat} {wd w:World} {T:TypeId} {V:Array Value} {L:Nat→Bool} {u:Value} (h:Jy i j wd T V L u w) (hi:i≠k) (hj:j≠k):Jy i j wd T V (upd L k) u w:=by
 unfold Jy at *;rw [upd_other _ hi,upd_other _ hj];exact h
theorem Jy.start {i j:Nat} {wd:World} {T:TypeId} {V:Array Value} {u:Value}:Jy i j wd T V (fun _=>false) u wd:=⟨Below.refl _ _,fun h=>by cases h⟩
theorem Jy.call {i j k:Nat} {wd w w':World} {T:TypeId} {V:Array Value} {L:Nat→Bool} {u:Value} (h:Jy i j wd T V L u w) (hi:i≠k) (hj:j≠k) (hb:Below w.heap.size w w'):Jy i j wd T V (upd L k) u w':=by
 unfold Jy at *;rw [upd_other _ hi,upd_other _ hj];refine ⟨h.1.trans (hb.mono h.1.size),fun hL=>?_⟩;obtain ⟨g,C,e,hg,hbk,hs,hc⟩:=h.2 hL;exact ⟨g,C,e,hg,hbk.later hb,hs,hc⟩
theorem Jy.first {i j:Nat} {wd w:World} {T:TypeId} {V C:Array Value} {L:Nat→Bool} {u:Value} (h:Jy i j wd T V L u w) (hij:j≠i) (hj:L j=false) (hs:C.size=V.size):Jy i j wd T V (upd L i) (.pointer (some ⟨w.heap.size,0,none⟩)) (w.alloc (.cells C T)):=by
 refine ⟨h.1.alloc h.1.size _,fun _=>⟨_,C,rfl,h.1.size,Blk.new _ _ _,hs,fun e=>?_⟩⟩;rw [upd_other _ hij,hj] at e;cases e
theorem Jy.at {i j:Nat} {wd w:World} {T:TypeId} {V:Array Value} {L:Nat→Bool} {u:Value} (h:Jy i j wd T V L u w) (hi:L i=true):∃g C,u=.pointer (some ⟨g,0,none⟩)∧wd.heap.size≤g∧Blk w g C T∧C.size=V.size:=by
 obtain ⟨g,C,e,hg,hb,hs,_⟩:=h.2 hi;exact ⟨g,C,e,hg,hb,hs⟩
theorem Jy.second {i j g:Nat} {wd w w':World} {T:TypeId} {V:Array Value} {L:Nat→Bool} {u:Value} (h:Jy i j wd T V L u w) (hu:u=.pointer (some ⟨g,0,none⟩)) (hg:wd.heap.size≤g) (hV:Blk w' g V T) (hb:Below wd.heap.size w w'):Jy i j wd T V (upd L j) u w':=
 ⟨h.1.trans hb,fun _=>⟨g,V,hu,hg,hV,rfl,fun _=>rfl⟩⟩
theorem Jy.done {i j:Nat} {wd w:World} {T:TypeId} {V:Array Value} {L:Nat→Bool} {u:Value} (h:Jy i j wd T V L u w) (hi:L i=true) (hj:L j=true):∃g,u=.pointer (some ⟨g,0,none⟩)∧wd.heap.size≤g∧Blk w g V T∧Below wd.heap.size wd w:=by
 obtain ⟨g,C,e,hg,hb,_,hc⟩:=h.2 hi;obtain rfl:=hc hj;exact ⟨g,e,hg,hb,h.1⟩
end Go.Proofs.YtclgbdfkdbbinaaGreat
namespace Go.Proofs.YtclgbdfkdbbinaaGreat
open Go.RowKit
section
variable {P : Program}
theorem wpList_build_eq {ops:Array Oper} {rest:List Oper} {o:Oper} {a:Act} {w:World} {Q:Exit→Act→World→Prop} (hg:o.guard=none) (t:TypeId) (parts:Array (Nat×Operand)) (ho:o.op=.build t parts) (V:Array Value)
 (hf:P.built t (parts.map fun (i,x)=>(i,a.eval x)).toList=some V) (h:wpList P ops Q rest (a.put o.dst (.agg V)) w):wpList P ops Q (o :: rest) a w:=by
 refine wpList_build hg t parts ho (by rw [hf];rfl) ?_;rw [hf];exact h
theorem wp_alloc_eq {o:Oper} {a:Act} {w:World} {K:Act→World→Prop} {Q:Exit→Act→World→Prop} (t:TypeId) (ho:o.op=.alloc t) (i:TypeInfo) (z:Value) (hi:P.info? t=some i) (hz:i.zero=some z)
 (h:K (a.put o.dst (.pointer (some ⟨w.heap.size,0,none⟩))) (w.alloc (.cells z.cells t))):o.wp P a w K Q:=by
 unfold Oper.wp execOp;simp [ho,Instr.alloc,zeroValue,typeInfo,hi,hz,Sem.run_bind]
 exact h
theorem wpList_alloc_eq {ops:Array Oper} {rest:List Oper} {o:Oper} {a:Act} {w:World} {Q:Exit→Act→World→Prop} (hg:o.guard=none) (t:TypeId) (ho:o.op=.alloc t) (Z:Array Value) (hz:(P.info? t).map (fun i=>i.zero.map (·.cells))=some (some Z))
 (h:wpList P ops Q rest (a.put o.dst (.pointer (some ⟨w.heap.size,0,none⟩))) (w.alloc (.cells Z t))):wpList P ops Q (o :: rest) a w:=by
 cases hi:P.info? t with
 | none=>rw [hi] at hz;cases hz
 | some i=>
   cases hq:i.zero with
   | none=>rw [hi] at hz;simp [hq] at hz
   | some z=>
     rw [hi] at hz;simp [hq] at hz
     subst hz;exact wpList_plain hg fun _ hK=>wp_alloc_eq t ho i z hi hq (hK _ _ h)
theorem wp_build_eq {o:Oper} {a:Act} {w:World} {K:Act→World→Prop} {Q:Exit→Act→World→Prop} (t:TypeId) (parts:Array (Nat×Operand)) (ho:o.op=.build t parts) (V:Array Value)
 (hf:P.built t (parts.map fun (i,x)=>(i,a.eval x)).toList=some V) (h:K (a.put o.dst (.agg V)) w):o.wp P a w K Q:=by
 refine wp_build t parts ho (by rw [hf];rfl) ?_;rw [hf];exact h
theorem wp_alloc_eq' {o:Oper} {a:Act} {w:World} {K:Act→World→Prop} {Q:Exit→Act→World→Prop} (t:TypeId) (ho:o.op=.alloc t) (Z:Array Value) (hz:(P.info? t).map (fun i=>i.zero.map (·.cells))=some (some Z))
 (h:K (a.put o.dst (.pointer (some ⟨w.heap.size,0,none⟩))) (w.alloc (.cells Z t))):o.wp P a w K Q:=by
 cases hi:P.info? t with
 | none=>rw [hi] at hz;cases hz
 | some i=>
   cases hq:i.zero with
   | none=>rw [hi] at hz;simp [hq] at hz
   | some z=>
     rw [hi] at hz;simp [hq] at hz
     subst hz;exact wp_alloc_eq t ho i z hi hq h
theorem wpList_new {ops:Array Oper} {rest:List Oper} {o1 o2 o3:Oper} {a:Act} {w:World} {Q:Exit→Act→World→Prop} (t:TypeId) (parts:Array (Nat×Operand)) (V Z:Array Value) (x y:Operand)
 (hg1:o1.guard=none) (ho1:o1.op=.build t parts) (hg2:o2.guard=none) (ho2:o2.op=.alloc t) (hg3:o3.guard=none) (ho3:o3.op=.store t x y)
 (hf:P.built t (parts.map fun (i,x)=>(i,a.eval x)).toList=some V) (hz:(P.info? t).map (fun i=>i.zero.map (·.cells))=some (some Z)) (hi:(P.info? t).map (·.size)=some V.size) (hs:Z.size=V.size) (h1:V.all (·.oneCell')=true)
 (hx:((a.put o1.dst (.agg V)).put o2.dst (.pointer (some ⟨w.heap.size,0,none⟩))).eval x=.pointer (some ⟨w.heap.size,0,none⟩)) (hy:((a.put o1.dst (.agg V)).put o2.dst (.pointer (some ⟨w.heap.size,0,none⟩))).eval y=.agg V)
 (h:wpList P ops Q rest (((a.put o1.dst (.agg V)).put o2.dst (.pointer (some ⟨w.heap.size,0,none⟩))).put o3.dst undef) (w.alloc (.cells V t))):wpList P ops Q (o1 :: o2 :: o3 :: rest) a w:=by
 refine wpList_build_eq hg1 t parts ho1 V hf ?_;refine wpList_alloc_eq hg2 t ho2 Z hz ?_;refine wpList_store_row hg3 t x y ho3 w.heap.size V hx hy t Z (Blk.new w Z t) hi hs h1 ?_;rw [World.setRow_alloc_new];exact h
end
end Go.Proofs.YtclgbdfkdbbinaaGreat
namespace Go.Proofs.YtclgbdfkdbbinaaGreat
open Go.RowKit
structure RowSt (w wx:World) (C:Array Value) (ct:TypeId) (e:TypeId) (k:Nat) (l:Value) (n:Nat) (xs:List Value):Prop where
 own:wx.ownsRow (w.heap.size+1) e k l n xs
 box:Blk wx w.heap.size C ct
 bel:Below w.heap.size w wx
theorem RowSt.later {w wx w':World} {C:Array Value} {ct e:TypeId} {k n:Nat} {l:Value} {xs:List Value} (h:RowSt w wx C ct e k l n xs) (hb:Below wx.heap.size wx w'):RowSt w w' C ct e k l n xs:=
 ⟨h.own.kept (row:=none) ⟨hb.os,hb.tape,hb.output,hb.size,fun k hk _=>hb.block k hk⟩ (by cases l.ownBlock<;>simp),h.box.later hb,h.bel.trans (hb.mono h.bel.size)⟩
theorem RowSt.alloc {w wx:World} {C:Array Value} {ct e:TypeId} {k n:Nat} {l:Value} {xs:List Value} (h:RowSt w wx C ct e k l n xs) (o:Obj):RowSt w (wx.alloc o) C ct e k l n xs:=h.later ((Below.refl _ _).alloc (Nat.le_refl _) o)
theorem RowSt.drew {w wx:World} {C:Array Value} {ct e:TypeId} {k n:Nat} {l:Value} {xs:List Value} (h:RowSt w wx C ct e k l n xs):RowSt w wx.drew C ct e k l n xs:=h.later (Below.refl _ _).drew
theorem RowSt.app {w wx w':World} {C:Array Value} {ct e:TypeId} {k n:Nat} {l l':Value} {xs ys:List Value} {o:Obj} (h:RowSt w wx C ct e k l n xs) (ho:w'.ownsRow (w.heap.size+1) e k l' (n+1) ys) (hg:(wx.alloc o).grownBy w' l.ownBlock):RowSt w w' C ct e k l' (n+1) ys:=by
 refine ⟨ho,((h.box.alloc o).grown hg (fun e=>?_)),(h.bel.alloc h.bel.size o).grown hg (by have:=h.bel.size;simp;omega) (fun q e=>?_)⟩
 ·have:=(h.own.lt _ e.symm).1;omega
 ·have:=(h.own.lt q e).1;omega
theorem row_slice {w:World} {base n k:Nat} {e:TypeId} {v:Value} {xs:List Value} (h:w.ownsRow base e k v n xs):∃a c,v=.slice a n c∧n≤c∧(c:Int)≤9223372036854775807:=by
 rcases h.2 with ⟨hv,e0⟩ | ⟨g,c,cur,hv,_,_,h1,h2,_⟩
 ·exact ⟨none,0,by rw [hv,e0],by omega,by omega⟩
 ·exact ⟨_,_,hv,h1,by unfold maxLen at h2;omega⟩
def SlN (n:Nat):Value→World→Prop:=fun u _=>∃a c,u=.slice a n c
theorem SlN.monoR (R:World→World→Prop) (n:Nat):MonoR R (SlN n):=fun _ _ _ h _=>h
def entryN (x:Bu):Int:=if 0<x.s.co.n then IntKind.u64.wrap (x.i.cp+x.s.en) else 0
theorem header9_any (x:Bu) (w:World) (hx:x.Ok) (hk:x.s.k=2∨x.s.k=3) :
 Calls Tryz.prog 71 #[x.val] w fun r w'=>(∃u,r=.returned u∧w'.ownsRow w.heap.size 5 1 u 64 ((enc x.s.k (entryN x) 64 (segsN x).length).map (Value.int .u8)))∧Below w.heap.size w w':=by
 have hc:=hx.co.i;have hcp:=hx.i.cp;have HSG:=Lib.hid (fun w1=>segs9_any x w1 hx);have hln:=segsN_len x;obtain ⟨n,hn⟩:∃n,(segsN x).length=n:=⟨_,rfl⟩
 rw [hn] at hln HSG⊢;obtain ⟨L,hL⟩:∃L,segsN x=L:=⟨_,rfl⟩
 rw [hL] at HSG;clear hn hL;obtain ⟨ey,hey⟩:∃ey,entryN x=ey:=⟨_,rfl⟩
 have hyb:u64B ey:=by rw [←hey];unfold entryN;split;exact u64_bd _;exact u64_z
 rw [hey];obtain ⟨⟨k,so,⟨nda,ndn,ndc⟩,en,⟨coa,con,coc⟩,⟨daa,dan,dac⟩,bz,⟨tla,tln,tlc⟩,tz,⟨dfa,dfn,dfc⟩,⟨fxa,fxn,fxc⟩⟩,⟨tba,tbn,tbc⟩,⟨pda,pdn,pdc⟩,⟨pna,pnn,pnc⟩,⟨v0,v1,v2,v3,v4,v5,v6,dy,fr,cp,dp,tp⟩⟩:=x;have HPU:Hid (∀w1,Calls Tryz.prog 87 #[headV k ey 64 n] w1 fun r w'=>(∃u,r=.returned (.tuple #[u,.int .i64 0])∧w'.ownsRow w1.heap.size 5 1 u 64 ((enc k ey 64 n).map (Value.int .u8)))∧Below w1.heap.size w1 w'):=Lib.hid (fun w1=>
  k3_put_own k ey 64 n w1 (validB_iff.2 (by simp only at hk;omega)) hyb.1 hyb.2 (by decide) (by decide))
 unfold headV at HPU;unfold Bu.val at HSG;unfold Bu.val;unfold entryN at hey;simp only at hc hcp hk HSG hey⊢;obtain ⟨E,hE⟩:∃E,enc k ey 64 n=E:=⟨_,rfl⟩
 rw [hE] at HPU⊢;clear hx hk hE;have HEY:=Lib.hid hey;clear hey;have hni:(n:Int)≤5:=by omega
 have HBX:Hid (Blk (w.alloc (.cells #[.int .i64 k,.string so,.slice nda ndn ndc,.int .u64 en,.slice coa con coc,.slice daa dan dac,.int .u64 bz,.slice tla tln tlc,.int .u64 tz,.slice dfa dfn dfc,.slice fxa fxn fxc,.slice tba tbn tbc,.slice pda pdn pdc,.slice pna pnn pnc,.int .u64 v0,.int .u64 v1,.int .u64 v2,.int .u64 v3,.int .u64 v4,.int .u64 v5,.int .u64 v6,.int .u64 dy,.int .u64 fr,.int .u64 cp,.int .u64 dp,.int .u64 tp] 84)) w.heap.size #[.int .i64 k,.string so,.slice nda ndn ndc,.int .u64 en,.slice coa con coc,.slice daa dan dac,.int .u64 bz,.slice tla tln tlc,.int .u64 tz,.slice dfa dfn dfc,.slice fxa fxn fxc,.slice tba tbn tbc,.slice pda pdn pdc,.slice pna pnn pnc,.int .u64 v0,.int .u64 v1,.int .u64 v2,.int .u64 v3,.int .u64 v4,.int .u64 v5,.int .u64 v6,.int .u64 dy,.int .u64 fr,.int .u64 cp,.int .u64 dp,.int .u64 tp] 84):=Lib.hid (Blk.new _ _ _);have HBE:Hid (Below w.heap.size w (w.alloc (.cells #[.int .i64 k,.string so,.slice nda ndn ndc,.int .u64 en,.slice coa con coc,.slice daa dan dac,.int .u64 bz,.slice tla tln tlc,.int .u64 tz,.slice dfa dfn dfc,.slice fxa fxn fxc,.slice tba tbn tbc,.slice pda pdn pdc,.slice pna pnn pnc,.int .u64 v0,.int .u64 v1,.int .u64 v2,.int .u64 v3,.int .u64 v4,.int .u64 v5,.int .u64 v6,.int .u64 dy,.int .u64 fr,.int .u64 cp,.int .u64 dp,.int .u64 tp] 84))):=Lib.hid ((Below.refl _ _).alloc (Nat.le_refl _) _);go_enter Tryz.func71,Tryz.ntmps71
 go_upto_region 1 with fail
 obtain ⟨wx,hwx⟩:∃wx,w.alloc (.cells #[.int .i64 k,.string so,.slice nda ndn ndc,.int .u64 en,.slice coa con coc,.slice daa dan dac,.int .u64 bz,.slice tla tln tlc,.int .u64 tz,.slice dfa dfn dfc,.slice fxa fxn fxc,.slice tba tbn tbc,.slice pda pdn pdc,.slice pna pnn pnc,.int .u64 v0,.int .u64 v1,.int .u64 v2,.int .u64 v3,.int .u64 v4,.int .u64 v5,.int .u64 v6,.int .u64 dy,.int .u64 fr,.int .u64 cp,.int .u64 dp,.int .u64 tp] 84)=wx:=⟨_,rfl⟩
 rw [hwx] at HBX HBE;rw [hwx];clear hwx;have HPB:Hid (∀w9,Below wx.drew.heap.size wx.drew w9→Blk w9 w.heap.size #[.int .i64 k,.string so,.slice nda ndn ndc,.int .u64 en,.slice coa con coc,.slice daa dan dac,.int .u64 bz,.slice tla tln tlc,.int .u64 tz,.slice dfa dfn dfc,.slice fxa fxn fxc,.slice tba tbn tbc,.slice pda pdn pdc,.slice pna pnn pnc,.int .u64 v0,.int .u64 v1,.int .u64 v2,.int .u64 v3,.int .u64 v4,.int .u64 v5,.int .u64 v6,.int .u64 dy,.int .u64 fr,.int .u64 cp,.int .u64 dp,.int .u64 tp] 84):=Lib.hid (fun w9 hb=>HBX.out.drew.later hb);go_wp2_with fail;refine wp_region_y (by kernel_rfl) 31 rfl [6,7,8,9,10,11,12,3,31] (fun _ _=>True) (factsOf [Is (.pointer (some ⟨w.heap.size,0,none⟩)),Is (.pointer (some ⟨w.heap.size,0,none⟩)),Is (.int .i64 k),Is (.agg #[.int .i64 k,.string so,.slice nda ndn ndc,.int .u64 en,.slice coa con coc,.slice daa dan dac,.int .u64 bz,.slice tla tln tlc,.int .u64 tz,.slice dfa dfn dfc,.slice fxa fxn fxc,.slice tba tbn tbc,.slice pda pdn pdc,.slice pna pnn pnc,.int .u64 v0,.int .u64 v1,.int .u64 v2,.int .u64 v3,.int .u64 v4,.int .u64 v5,.int .u64 v6,.int .u64 dy,.int .u64 fr,.int .u64 cp,.int .u64 dp,.int .u64 tp]),SlN n,Is (.int .i64 n),Is (.agg #[.int .i64 k,.int .u64 0,.int .u64 64,.int .i64 n]),AnyB,AnyB]) 3 (Jy 7 8 (wx.drew) 26 #[.int .i64 k,.int .u64 0,.int .u64 64,.int .i64 n]) ?mono1 ?hj1 (by kernel_rfl) ?start1 ?steps1 ?fin1;case mono1=>exact factsOf_monoR (monoR_cons (Is.monoR _ _) (monoR_cons (Is.monoR _ _) (monoR_cons (Is.monoR _ _) (monoR_cons (Is.monoR _ _) (monoR_cons (SlN.monoR _ _) (monoR_cons (Is.monoR _ _) (monoR_cons (Is.monoR _ _) (monoR_cons (AnyB.monoR _) (monoR_cons (AnyB.monoR _) (monoR_nil _))))))))))
 case hj1=>exact Jy.congr (by decide) (by decide)
 case start1=>exact Jy.start
 case fin1=>
  intro v9 L w9 hJ hall hF;obtain ⟨gx,hgx,hgB,hgb,hbe⟩:=(hJ 7 rfl).done (hall 7 (by decide)) (hall 8 (by decide));have f6:v9 0=.pointer (some ⟨w.heap.size,0,none⟩):=hF 0 (by decide) (by decide);have f7:v9 1=.pointer (some ⟨w.heap.size,0,none⟩):=hF 1 (by decide) (by decide);have f8:v9 2=.int .i64 k:=hF 2 (by decide) (by decide);have f9:v9 3=.agg #[.int .i64 k,.string so,.slice nda ndn ndc,.int .u64 en,.slice coa con coc,.slice daa dan dac,.int .u64 bz,.slice tla tln tlc,.int .u64 tz,.slice dfa dfn dfc,.slice fxa fxn fxc,.slice tba tbn tbc,.slice pda pdn pdc,.slice pna pnn pnc,.int .u64 v0,.int .u64 v1,.int .u64 v2,.int .u64 v3,.int .u64 v4,.int .u64 v5,.int .u64 v6,.int .u64 dy,.int .u64 fr,.int .u64 cp,.int .u64 dp,.int .u64 tp]:=hF 3 (by decide) (by decide);obtain ⟨fa10,fc10,f10⟩:SlN n (v9 4) w9:=hF 4 (by decide) (by decide);have f11:v9 5=.int .i64 n:=hF 5 (by decide) (by decide);have f12:v9 6=.agg #[.int .i64 k,.int .u64 0,.int .u64 64,.int .i64 n]:=hF 6 (by decide) (by decide);clear hJ hall hF;simp only [putAll,List.set_cons_succ,List.set_cons_zero,Nat.reduceAdd,hgx,f6,f7,f8,f9,f10,f11,f12];clear hgx f6 f7 f8 f9 f10 f11 f12;have HBE9:=Lib.hid (HBE.out.drew.trans (hbe.mono HBE.out.drew.size));have hbx:=HPB.out _ hbe;have q4:w9.cell? ⟨w.heap.size,4,none⟩=some (.slice coa con coc):=hbx.cell 4;have q24:w9.cell? ⟨w.heap.size,24,none⟩=some (.int .u64 dp):=hbx.cell 24;have q23:w9.cell? ⟨w.heap.size,23,none⟩=some (.int .u64 cp):=hbx.cell 23;have q3:w9.cell? ⟨w.heap.size,3,none⟩=some (.int .u64 en):=hbx.cell 3;have hlw:=hbx.lt;obtain ⟨g0,g1,g2,g3⟩:=hgb.c4;have z1:=hgb.frozen 1;have hgl:=hgb.lt;have HGB:=Lib.hid hgb;have HGL:=Lib.hid (Nat.le_trans HBE.out.drew.size hgB);clear hbe hbx hgb hgB HPB HBX HBE;by_cases h1:0<con
  ·have h1i:(0:Int)<con:=by omega
   have he:=HEY.out;rw [if_pos h1] at he;have HS9:Hid (Below w.heap.size w (w9.setCell ⟨gx,1,none⟩ (.int .u64 ey))):=Lib.hid (HBE9.out.setCell (HGL.out) _);clear h1;go_wp2_with fail;refine (HPU.out _).mono ?_;rintro r w5 ⟨⟨u,rfl,ho⟩,hb⟩;have HO:=Lib.hid (own_base ho (Nat.le_trans HS9.out.size (Nat.le_refl _)));have HB5:=Lib.hid (HS9.out.trans (hb.mono HS9.out.size));clear ho hb;go_wp2;go_ret;exact ⟨⟨_,rfl,HO.out⟩,HB5.out⟩
  ·have h1i:¬(0:Int)<con:=by omega
   have he:=HEY.out;rw [if_neg h1] at he;subst he;clear h1;go_wp2_with fail;refine (HPU.out _).mono ?_;rintro r w5 ⟨⟨u,rfl,ho⟩,hb⟩;have HO:=Lib.hid (own_base ho HBE9.out.size);have HB5:=Lib.hid (HBE9.out.trans (hb.mono HBE9.out.size));clear ho hb;go_wp2;go_ret;exact ⟨⟨_,rfl,HO.out⟩,HB5.out⟩
 case steps1=>
  refine ⟨?_,?_,?_,?_,?_,?_,?_,?_,?_,trivial⟩;all_goals intro L y w9 hJ hL hy0 hp0 hcl hun
  all_goals have hy:=Lib.hid hy0
  all_goals have hp:=Lib.hid hp0
  all_goals have HJ:=Lib.hid hJ
  all_goals have HB:=Lib.hid hJ.1
  all_goals have HSZ:=Lib.hid hJ.1.size
  all_goals clear hy0 hp0 hun hJ
  ·have e1:y 1=.pointer (some ⟨w.heap.size,0,none⟩):=hy.out 1 (by decide);intro K Q hK;clear hcl hL;obtain ⟨A,hA,v1⟩:=evA1 (n:=31) e1 (by decide);rw [hA] at hK⊢;clear hA hy hp;go_simp;exact hK _ _ ⟨trivial,fun _=>rfl,HJ.out.pure (by decide) (by decide)⟩
  ·have e1:y 6=.pointer (some ⟨w.heap.size,0,none⟩):=(hp.out 0 (by decide)).2 (by decide);intro K Q hK;clear hcl hL;obtain ⟨A,hA,v1⟩:=evA1 (n:=31) e1 (by decide);rw [hA] at hK⊢;clear hA hy hp;go_simp;exact hK _ _ ⟨trivial,fun _=>rfl,HJ.out.pure (by decide) (by decide)⟩
  ·have e1:y 7=.pointer (some ⟨w.heap.size,0,none⟩):=(hp.out 1 (by decide)).2 (by decide);have q0:w9.cell? ⟨w.heap.size,0,none⟩=some (.int .i64 k):=(HPB.out _ HB.out).cell 0;have hl1:=(HPB.out _ HB.out).lt;intro K Q hK;clear hcl hL;obtain ⟨A,hA,v1⟩:=evA1 (n:=31) e1 (by decide);rw [hA] at hK⊢;clear hA hy hp;go_simp;exact hK _ _ ⟨trivial,fun _=>rfl,HJ.out.pure (by decide) (by decide)⟩
  ·have e1:y 1=.pointer (some ⟨w.heap.size,0,none⟩):=hy.out 1 (by decide);intro K Q hK;clear hcl hL;have v1:=(eval_frame 31 y [] (t:=1) (by decide)).trans e1;obtain ⟨A,hA⟩:∃A,(⟨frameOf 31 y,[]⟩:Act)=A:=⟨_,rfl⟩
   rw [hA] at v1 hK⊢;clear hA hy hp;refine wp_load_row 84 (.tmp 1) rfl (w.heap.size) v1 _ _ (0,0) _ ((HPB.out _ HB.out)) Tryz.underlying84 rfl (by kernel_rfl) ?_;exact hK _ _ ⟨trivial,fun _=>rfl,HJ.out.pure (by decide) (by decide)⟩
  ·have e1:y 9=.agg #[.int .i64 k,.string so,.slice nda ndn ndc,.int .u64 en,.slice coa con coc,.slice daa dan dac,.int .u64 bz,.slice tla tln tlc,.int .u64 tz,.slice dfa dfn dfc,.slice fxa fxn fxc,.slice tba tbn tbc,.slice pda pdn pdc,.slice pna pnn pnc,.int .u64 v0,.int .u64 v1,.int .u64 v2,.int .u64 v3,.int .u64 v4,.int .u64 v5,.int .u64 v6,.int .u64 dy,.int .u64 fr,.int .u64 cp,.int .u64 dp,.int .u64 tp]:=(hp.out 3 (by decide)).2 (by decide);intro K Q hK;clear hcl hL;obtain ⟨A,hA,v1⟩:=evA1 (n:=31) e1 (by decide);rw [hA] at hK⊢;clear hA hy hp;go_simp;go_at_call 67
   refine (HSG.out w9).mono ?_;rintro r w7 ⟨⟨u,rfl,ho⟩,hb7⟩;obtain ⟨ua,uc,rfl,-,-⟩:=own7_slice ho;exact hK _ _ ⟨trivial,fun _=>⟨_,_,rfl⟩,HJ.out.call (by decide) (by decide) hb7⟩
  ·obtain ⟨xa,xc,e1⟩:SlN n (y 10) w9:=(hp.out 4 (by decide)).2 (by decide);intro K Q hK;clear hcl hL;obtain ⟨A,hA,v1⟩:=evA1 (n:=31) e1 (by decide);rw [hA] at hK⊢;clear hA hy hp;go_simp;exact hK _ _ ⟨trivial,fun _=>rfl,HJ.out.pure (by decide) (by decide)⟩
  ·have e1:y 8=.int .i64 k:=(hp.out 2 (by decide)).2 (by decide);have e2:y 11=.int .i64 n:=(hp.out 5 (by decide)).2 (by decide);intro K Q hK;clear hcl hL;obtain ⟨A,hA,v1,v2⟩:=evA2 (n:=31) e1 e2 (by decide) (by decide);rw [hA] at hK⊢;clear hA hy hp;rw [Array.getD_eq_getD_getElem?] at v1 v2;go_simp;exact hK _ _ ⟨trivial,fun _=>rfl,HJ.out.pure (by decide) (by decide)⟩
  ·have HLJ:Hid (L 8=false):=Lib.hid (by
    cases h:L 8 with
    | false=>rfl
    | true=>have:=(hcl 8 _ rfl h 7 (by decide));rw [hL] at this;cases this)
   intro K Q hK;clear hcl hL;obtain ⟨A,hA⟩:∃A,(⟨frameOf 31 y,[]⟩:Act)=A:=⟨_,rfl⟩
   rw [hA] at hK⊢;clear hA hy hp;go_simp;exact hK _ _ ⟨trivial,fun _=>True.intro,HJ.out.first (by decide) HLJ.out rfl⟩
  ·have HLI:=Lib.hid (hp.out 7 (by decide)).1;obtain ⟨gx,Cx,e1,hgB,hgb,hgk⟩:=HJ.out.at HLI.out;have HEQ:=Lib.hid e1;have e2:y 12=.agg #[.int .i64 k,.int .u64 0,.int .u64 64,.int .i64 n]:=(hp.out 6 (by decide)).2 (by decide);obtain ⟨c0,c1,c2,c3,rfl⟩:=arr4 hgk;have HGB:=Lib.hid hgb;have q0:w9.cell? ⟨gx,0,none⟩=some c0:=hgb.cell 0;have q1:w9.cell? ⟨gx,1,none⟩=some c1:=hgb.cell 1;have q2:w9.cell? ⟨gx,2,none⟩=some c2:=hgb.cell 2;have q3:w9.cell? ⟨gx,3,none⟩=some c3:=hgb.cell 3;have f0:w9.frozen? ⟨gx,0,none⟩=false:=hgb.frozen 0;have f1:w9.frozen? ⟨gx,1,none⟩=false:=hgb.frozen 1;have f2:w9.frozen? ⟨gx,2,none⟩=false:=hgb.frozen 2;have f3:w9.frozen? ⟨gx,3,none⟩=false:=hgb.frozen 3;have hgl:=hgb.lt;clear hgb hgk;intro K Q hK;clear hcl hL;obtain ⟨A,hA,v1,v2⟩:=evA2 (n:=31) e1 e2 (by decide) (by decide);rw [hA] at hK⊢;clear hA hy hp;go_simp;exact hK undef _ ⟨trivial,fun _=>True.intro,HJ.out.second HEQ.out hgB (HGB.out.all4 (.int .i64 k) (.int .u64 0) (.int .u64 64) (.int .i64 n)) (((((Below.refl _ _).setCell hgB (.int .i64 k)).setCell hgB (.int .u64 0)).setCell hgB (.int .u64 64)).setCell hgB (.int .i64 n))⟩
end Go.Proofs.YtclgbdfkdbbinaaGreat
