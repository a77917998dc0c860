/-
  What is proved here: words and contracts, a part of those that the statement rests on (C5).
  Conditions: none but that the arguments are values of their types.
-/
import Derived.Test.YtclgbdfkdbbinaaGreatC1
import Derived.Test.YtclgbdfkdbbinaaGreatC4
import Derived.RegionTactic
import Derived.ProofKit
import Derived.OpenShut
import Derived.ChangeSame
set_option linter.unusedVariables false
set_option linter.unusedSimpArgs false
set_option maxRecDepth 100000
set_option maxHeartbeats 12800000
namespace Go.Proofs.YtclgbdfkdbbinaaGreat
open Go.RowKit
def frameOf (n:Nat) (y:Nat→Value):Array Value:=((List.range n).map y).toArray
theorem frameOf_size (n:Nat) (y:Nat→Value):(frameOf n y).size=n:=by simp [frameOf]
theorem frameOf_get (n:Nat) (y:Nat→Value) (t:Nat) (h:t<n):(frameOf n y)[t]?=some (y t):=by simp [frameOf,h]
theorem frameOf_set (n:Nat) (y:Nat→Value) (t:Nat) (u:Value):(frameOf n y).setIfInBounds t u=frameOf n (fun s=>if s=t then u else y s):=by
 apply Array.ext_getElem?
 intro i;rw [Array.getElem?_setIfInBounds];by_cases hi:i<n
 ·rw [frameOf_get _ _ _ hi,frameOf_get _ _ _ hi,frameOf_size];by_cases h:t=i
  ·subst h;simp [hi]
  ·simp [h,Ne.symm h]
 ·rw [Array.getElem?_eq_none (by rw [frameOf_size];omega),Array.getElem?_eq_none (by rw [frameOf_size];omega),frameOf_size];by_cases h:t=i
  ·subst h;simp [hi]
  ·simp [h]
theorem frameOf_list (x:List Value):x.toArray=frameOf x.length (fun t=>x.getD t undef):=by
 apply Array.ext_getElem?
 intro i;by_cases hi:i<x.length
 ·rw [frameOf_get _ _ _ hi];simp [hi]
 ·rw [Array.getElem?_eq_none (by simpa using hi),Array.getElem?_eq_none (by rw [frameOf_size];omega)]
def StepFact (P:Program) (o:Oper) (a:Act) (w:World) (post:Value→World→Prop):Prop:=
 ∀(K:Act→World→Prop) (Q:Exit→Act→World→Prop),(∀u w',post u w'→K (a.put o.dst u) w')→o.wp P a w K Q
def putAll (v:Nat→Value):Nat→List Nat→List Value→List Value
 | _,[],x=>x
 | i,t :: ts,x=>putAll v (i+1) ts (x.set t (v i))
def factsOk (l:List Oper) (dsts:List Nat) (n:Nat):Bool:=
 decide (l.map (·.dst)=dsts.map some) && decide dsts.Nodup && dsts.all (·<n) &&
 (List.range l.length).all fun i=>match l[i]? with
  | some o=>o.after.toList.all fun e=>!Region.binds .any e || decide (e.on<i)
  | none=>true
def preds (o:Oper):List Nat:=(o.after.toList.filter (Region.binds .any)).map (·.on)
def StepG (P:Program) (L:List Oper) (o:Oper) (a:Act) (w:World) (R:World→World→Prop) (F:Value→World→Prop):Prop:=
 (Region.wanted o (yielded L.toArray a.tmps)=true→StepFact P o a w fun u w'=>R w w'∧F u w')∧(Region.wanted o (yielded L.toArray a.tmps)=false→F undef w)
theorem StepG.plain {P:Program} {L:List Oper} {o:Oper} {a:Act} {w:World} {R:World→World→Prop} {F:Value→World→Prop} (hg:o.guard=none) (h:StepFact P o a w fun u w'=>R w w'∧F u w'):StepG P L o a w R F:=
 ⟨fun _=>h,fun hw=>by
  have:Region.wanted o (yielded L.toArray a.tmps)=true:=by unfold Region.wanted;rw [hg]
  rw [this] at hw;cases hw⟩
def StepsFrom (P:Program) (L:List Oper) (R:World→World→Prop) (n:Nat) (x:List Value) (d:List Deferred) (w0:World) (dsts:List Nat) (F:Nat→Value→World→Prop):Nat→List Oper→Prop
 | _,[]=>True
 | i,o :: l=>(∀(y:Nat→Value) (w:World),R w0 w→(∀t,t ∉ dsts→y t=x.getD t undef)→(∀j,j∈preds o→F j (y (dsts.getD j 0)) w)→
  StepG P L o ⟨frameOf n y,d⟩ w R (F i))∧StepsFrom P L R n x d w0 dsts F (i+1) l
theorem StepsFrom.get {P:Program} {L:List Oper} {R:World→World→Prop} {n:Nat} {x:List Value} {d:List Deferred} {w0:World} {dsts:List Nat} {F:Nat→Value→World→Prop} :
 ∀{l:List Oper} {k:Nat},StepsFrom P L R n x d w0 dsts F k l→∀i o,l[i]?=some o→
  ∀(y:Nat→Value) (w:World),R w0 w→(∀t,t ∉ dsts→y t=x.getD t undef)→(∀j,j∈preds o→F j (y (dsts.getD j 0)) w)→
   StepG P L o ⟨frameOf n y,d⟩ w R (F (k+i))
 | [],_,_,_,_,h=>by simp at h
 | o :: l,k,hs,0,o',h=>by
   simp only [List.getElem?_cons_zero,Option.some.injEq] at h;subst h;exact hs.1
 | o :: l,k,hs,i+1,o',h=>by
   rw [List.getElem?_cons_succ] at h;have:=hs.2.get i o' h
   rwa [show k+1+i=k+(i+1) from by omega] at this
theorem putAll_get (v:Nat→Value):∀(ts:List Nat) (i:Nat) (x:List Value),ts.Nodup→(∀t∈ts,t<x.length)→
 (putAll v i ts x).length=x.length∧(∀j t,ts[j]?=some t→(putAll v i ts x)[t]?=some (v (i+j)))∧∀t,t ∉ ts→(putAll v i ts x)[t]?=x[t]?
 | [],i,x,_,_=>⟨rfl,fun j t h=>by simp at h,fun t _=>rfl⟩
 | s :: ts,i,x,hn,hl=>by
   have hn':=List.nodup_cons.1 hn;obtain ⟨h1,h2,h3⟩:=putAll_get v ts (i+1) (x.set s (v i)) hn'.2 (fun t ht=>by rw [List.length_set];exact hl t (by simp [ht]));refine ⟨by rw [putAll,h1,List.length_set],fun j t hj=>?_,fun t ht=>?_⟩
   ·cases j with
    | zero=>
      simp only [List.getElem?_cons_zero,Option.some.injEq] at hj;subst hj;rw [putAll,h3 s hn'.1,List.getElem?_set_self (hl s (by simp)),Nat.add_zero]
    | succ j=>
      rw [List.getElem?_cons_succ] at hj;rw [putAll,h2 j t hj,show i+1+j=i+(j+1) from by omega]
   ·rw [putAll,h3 t (fun h=>ht (by simp [h])),List.getElem?_set_ne (fun e=>ht (by simp [e]))]
theorem nodup_inj {l:List Nat} (hn:l.Nodup) (i j:Nat) (hi:i<l.length) (hj:j<l.length) (h:l[i]=l[j]):i=j:=by
 have hp:=List.pairwise_iff_getElem.1 hn;rcases Nat.lt_trichotomy i j with hij | hij | hij
 ·exact absurd h (hp i j hi hj hij)
 ·exact hij
 ·exact absurd h.symm (hp j i hj hi hij)
def left (l:Array Bool):Nat:=(l.toList.filter (!·)).length
theorem left_set:∀(l:List Bool) (i:Nat),l[i]?=some false→((l.set i true).filter (!·)).length+1=(l.filter (!·)).length
 | [],i,h=>by simp at h
 | b :: l,0,h=>by
   simp only [List.getElem?_cons_zero,Option.some.injEq] at h;subst h;simp
 | b :: l,i+1,h=>by
   rw [List.getElem?_cons_succ] at h;have:=left_set l i h;cases b<;>simp at this⊢<;>omega
theorem left_zero:∀(l:List Bool),(l.filter (!·)).length=0→∀i,i<l.length→l[i]?=some true
 | [],_,i,h=>by simp at h
 | b :: l,h,i,hi=>by
   cases b with
   | false=>simp at h
   | true=>
     cases i with
     | zero=>rfl
     | succ i=>rw [List.getElem?_cons_succ];exact left_zero l (by simpa using h) i (by simpa using hi)
section
variable {P:Program} {Q:Exit→Act→World→Prop}
theorem wpAny_facts {l:List Oper} {x:List Value} {d:List Deferred} {w0:World} (R:World→World→Prop) (hrf:∀a,R a a) (htr:∀a b c,R a b→R b c→R a c) (dsts:List Nat) (F:Nat→Value→World→Prop)
 (hok:factsOk l dsts x.length=true) (hmono:∀i u w w',F i u w→R w w'→F i u w') (hsteps:StepsFrom P l R x.length x d w0 dsts F 0 l)
 (hend:∀(v:Nat→Value) (w:World),R w0 w→(∀i,i<l.length→F i (v i) w)→Q .normal ⟨(putAll v 0 dsts x).toArray,d⟩ w) :
 ∀(fuel:Nat) (listed:Array Bool) (y:Nat→Value) (w:World),left listed≤fuel→listed.size=l.length→(∀t,t ∉ dsts→y t=x.getD t undef)→
  (∀i,listed[i]?=some true→F i (y (dsts.getD i 0)) w)→R w0 w→wpAny P .any l.toArray Q fuel listed ⟨frameOf x.length y,d⟩ w:=by
 simp only [factsOk,Bool.and_eq_true,decide_eq_true_eq,List.all_eq_true,List.mem_range] at hok;obtain ⟨⟨⟨hd,hnd⟩,hlt⟩,hord⟩:=hok;have hdl:dsts.length=l.length:=by have:=congrArg List.length hd;simpa using this.symm
 have fin:∀(listed:Array Bool) (y:Nat→Value) (w:World),listed.size=l.length→(∀t,t ∉ dsts→y t=x.getD t undef)→
  (∀i,listed[i]?=some true→F i (y (dsts.getD i 0)) w)→R w0 w→(∀i,i<l.length→listed[i]?=some true)→Q .normal ⟨frameOf x.length y,d⟩ w:=by
  intro listed y w hsz hy hF hb hall;have h:=hend (fun i=>y (dsts.getD i 0)) w hb (fun i hi=>hF i (hall i hi));have e:(putAll (fun i=>y (dsts.getD i 0)) 0 dsts x).toArray=frameOf x.length y:=by
   obtain ⟨h1,h2,h3⟩:=putAll_get (fun i=>y (dsts.getD i 0)) dsts 0 x hnd (fun t ht=>by simpa using hlt t ht);apply Array.ext_getElem?
   intro t;rw [List.getElem?_toArray];by_cases ht:t<x.length
   ·rw [frameOf_get _ _ _ ht];by_cases hm:t∈dsts
    ·obtain ⟨j,hj,hjt⟩:=List.getElem_of_mem hm;have hj':dsts[j]?=some t:=by rw [List.getElem?_eq_getElem hj,hjt]
     rw [h2 j t hj',Nat.zero_add,List.getD_eq_getElem?_getD,hj'];rfl
    ·rw [h3 t hm,hy t hm,List.getD_eq_getElem?_getD,List.getElem?_eq_getElem ht];rfl
   ·rw [List.getElem?_eq_none (by omega),Array.getElem?_eq_none (by rw [frameOf_size];omega)]
  rw [e] at h;exact h
 intro fuel;induction fuel with
 | zero=>
   intro listed y w hf hsz hy hF hb;have hall:∀i,i<l.length→listed[i]?=some true:=fun i hi=>by
    have:=left_zero listed.toList (by unfold left at hf;omega) i (by rw [Array.length_toList,hsz];exact hi);simpa using this
   refine ⟨?_,fin listed y w hsz hy hF hb hall⟩;apply List.eq_nil_iff_forall_not_mem.2
   intro j hj;obtain ⟨h0,o,ho,_⟩:=mem_ready.1 hj;have hjl:j<l.length:=by
    have:=(Array.getElem?_eq_some_iff.1 ho).1;simpa using this
   rw [Array.getD_eq_getD_getElem?,hall j hjl] at h0;cases h0
 | succ fuel ih=>
   intro listed y w hf hsz hy hF hb;refine ⟨fun hr=>?_,fun i hi=>?_⟩
   ·
    refine fin listed y w hsz hy hF hb ?_;intro i;induction i using Nat.strongRecOn with
    | ind i ihi=>
      intro hi;cases hli:listed[i]? with
      | none=>rw [Array.getElem?_eq_none_iff] at hli;omega
      | some b=>
        cases b with
        | true=>rfl
        | false=>
          exfalso
          have:i∈Region.ready .any l.toArray listed:=by
           refine mem_ready.2 ⟨by rw [Array.getD_eq_getD_getElem?,hli];rfl,l[i],by rw [List.getElem?_toArray,List.getElem?_eq_getElem hi],fun e he hbe=>?_⟩;have h1:=hord i hi;rw [List.getElem?_eq_getElem hi] at h1;have h2:=List.all_eq_true.1 h1 e (by simpa using he);rw [hbe] at h2;have h3:e.on<i:=by simpa using h2
           rw [Array.getD_eq_getD_getElem?,ihi e.on h3 (by omega)];rfl
          rw [hr] at this;cases this
   ·obtain ⟨h0,o,ho,hall⟩:=mem_ready.1 hi;have ho':l[i]?=some o:=by simpa using ho
    have hil:i<l.length:=(List.getElem?_eq_some_iff.1 ho').1;have hli:listed[i]?=some false:=by
     cases hli:listed[i]? with
     | none=>rw [Array.getElem?_eq_none_iff] at hli;omega
     | some b=>rw [Array.getD_eq_getD_getElem?,hli] at h0;rw [show b=false from h0]
    have hst:=hsteps.get i o ho' y w hb hy (fun j hj=>by
     unfold preds at hj;obtain ⟨e,he,rfl⟩:=List.mem_map.1 hj;obtain ⟨he1,he2⟩:=List.mem_filter.1 he;have:=hall e (by simpa using he1) he2;refine hF e.on ?_;cases hle:listed[e.on]? with
     | none=>rw [Array.getD_eq_getD_getElem?,hle] at this;cases this
     | some b=>rw [Array.getD_eq_getD_getElem?,hle] at this;rw [show b=true from this])
    rw [Nat.zero_add] at hst;have hdi:dsts[i]?=o.dst:=by
     have:=congrArg (fun z=>z[i]?) hd;simp only [List.getElem?_map,ho',Option.map_some] at this;cases hdi:dsts[i]? with
     | none=>rw [hdi] at this;cases this
     | some t=>rw [hdi] at this;simpa using this.symm
    obtain ⟨t,ht⟩:∃t,dsts[i]?=some t:=⟨dsts[i]'(by omega),List.getElem?_eq_getElem (by omega)⟩
    have hdst:o.dst=some t:=hdi▸ht;have after:∀u w',R w w'→F i u w'→wpAny P .any l.toArray Q fuel (listed.setIfInBounds i true) (Act.put ⟨frameOf x.length y,d⟩ o.dst u) w':=by
     intro u w' hbw hFu;have ea:(Act.put ⟨frameOf x.length y,d⟩ o.dst u)=⟨frameOf x.length (fun s=>if s=t then u else y s),d⟩:=by
      rw [hdst];simp only [Act.put,frameOf_set]
     rw [ea];have hlf:=left_set listed.toList i (by simpa using hli);refine ih _ _ _ ?_ (by rw [Array.size_setIfInBounds,hsz]) ?_ ?_ (htr _ _ _ hb hbw)
     ·unfold left at hf⊢;rw [Array.toList_setIfInBounds];omega
     ·intro s hs;have hst:s≠t:=fun e=>hs (e▸List.mem_of_getElem? ht);simp only [hst,if_false];exact hy s hs
     ·intro j hj;by_cases hji:j=i
      ·subst hji;rw [List.getD_eq_getElem?_getD,ht];simpa using hFu
      ·rw [Array.getElem?_setIfInBounds_ne (Ne.symm hji)] at hj;have hjl:j<dsts.length:=by
        have:=(Array.getElem?_eq_some_iff.1 hj).1;omega
       have hne:dsts.getD j 0≠t:=by
        rw [List.getD_eq_getElem?_getD,List.getElem?_eq_getElem hjl];intro e;have hit:dsts[i]'(by omega)=t:=(List.getElem?_eq_some_iff.1 ht).2;have:=nodup_inj hnd j i hjl (by omega) (show dsts[j]=dsts[i]'(by omega) from by rw [hit];simpa using e);exact hji this
       simp only [hne,if_false];exact hmono _ _ _ _ (hF j hj) hbw
    unfold wpOp;rw [ho];simp only
    cases hw:Region.wanted o (yielded l.toArray (frameOf x.length y)) with
    | true=>
      rw [if_pos rfl];exact .inl (hst.1 hw _ _ fun u w' h=>after u w' h.1 h.2)
    | false=>
      rw [if_neg (by decide)];exact after undef w (hrf w) (hst.2 hw)
theorem wp_region_facts {id:Nat} {l:List Oper} {x:List Value} {d:List Deferred} {w:World} (hm:P.follows .mixedOrders=true) (R:World→World→Prop) (hrf:∀a,R a a) (htr:∀a b c,R a b→R b c→R a c)
 (n:Nat) (hn:x.length=n) (dsts:List Nat) (F:Nat→Value→World→Prop)
 (hok:factsOk l dsts n=true) (hmono:∀i u w w',F i u w→R w w'→F i u w') (hsteps:StepsFrom P l R n x d w.drew dsts F 0 l)
 (hend:∀(v:Nat→Value) (w':World),R w.drew w'→(∀i,i<l.length→F i (v i) w')→Q .normal ⟨(putAll v 0 dsts x).toArray,d⟩ w') :
 (Code.region id l.toArray true).wp P Q ⟨x.toArray,d⟩ w:=by
 subst hn;refine wp_region_any hm ?_;change wpAny P .any l.toArray Q _ _ _ w.drew;rw [frameOf_list x];have hl:∀n,((List.replicate n false).filter (!·)).length=n:=fun n=>by induction n with
  | zero=>rfl
  | succ n ih=>rw [List.replicate_succ];simp
 refine wpAny_facts R hrf htr dsts F hok hmono hsteps hend _ _ _ _ ?_ (by simp) (fun t ht=>rfl) ?_ (hrf _)
 ·unfold left;rw [Array.toList_replicate,hl];exact Nat.le_refl _
 ·intro i hi;rw [Array.getElem?_replicate] at hi;split at hi<;>cases hi
end
structure Kept (B m:Nat) (w w':World):Prop where
 below:Below B w w'
 cells:∀(k:Nat) C t fr,w.heap[k]?=some (.cells C t fr)→∃fr',w'.heap[k]?=some (.cells C t fr')∧(fr'=fr∨C.size=m)
theorem Kept.refl (B m:Nat) (w:World):Kept B m w w:=⟨Below.refl _ _,fun k C t fr h=>⟨fr,h,.inl rfl⟩⟩
theorem Kept.trans {B m:Nat} {a b c:World} (h:Kept B m a b) (k:Kept B m b c):Kept B m a c:=
 ⟨h.below.trans k.below,fun i C t fr hi=>by
  obtain ⟨fr1,h1,e1⟩:=h.cells i C t fr hi;obtain ⟨fr2,h2,e2⟩:=k.cells i C t fr1 h1;refine ⟨fr2,h2,?_⟩;rcases e1 with rfl | e1
  ·exact e2
  ·exact .inr e1⟩
theorem Kept.of_below {B m:Nat} {w w':World} (hB:B≤w.heap.size) (h:Below w.heap.size w w'):Kept B m w w':=
 ⟨h.mono hB,fun k C t fr hk=>⟨fr,by
  rw [h.block k]
  ·exact hk
  ·exact (Array.getElem?_eq_some_iff.1 hk).1,.inl rfl⟩⟩
theorem Kept.size {B m:Nat} {w w':World} (h:Kept B m w w'):w.heap.size≤w'.heap.size:=h.below.size
theorem Kept.cell {B m:Nat} {w w':World} (h:Kept B m w w') {p:Addr} {v:Value} (hp:w.cell? p=some v):w'.cell? p=some v:=by
 unfold World.cell? at hp⊢;cases hk:w.heap[p.block]? with
 | none=>rw [hk] at hp;cases hp
 | some o=>
   rw [hk] at hp;cases o with
   | cells C t fr=>
     obtain ⟨fr',h',_⟩:=h.cells _ C t fr hk;rw [h'];exact hp
   | _=>cases hp
theorem Bys.kept {B m:Nat} {w w':World} {a:Option Addr} {len:Nat} {zs:List Int} (h:Bys w w.heap.size a len zs) (hk:Kept B m w w'):Bys w' w'.heap.size a len zs:=
 ⟨h.1,h.2.1,fun hl=>by
  obtain ⟨b,off,e,hb,hc⟩:=h.2.2 hl;exact ⟨b,off,e,Nat.lt_of_lt_of_le hb hk.size,fun i hi=>hk.cell (hc i hi)⟩⟩
theorem Cel.kept {B m:Nat} {w w':World} {a:Option Addr} {len:Nat} {vs:List Value} (h:Cel w w.heap.size a len vs) (hk:Kept B m w w'):Cel w' w'.heap.size a len vs:=
 ⟨h.1,fun hl=>by
  obtain ⟨b,off,e,hb,hc⟩:=h.2 hl;refine ⟨b,off,e,Nat.lt_of_lt_of_le hb hk.size,fun i hi=>?_⟩;have:=hc i hi;have hi':i<vs.length:=by have:=h.1;omega
  rw [List.getElem?_eq_getElem hi'] at this⊢;exact hk.cell this⟩
theorem own_kept {B m:Nat} {w w':World} {base n:Nat} {e:TypeId} {v:Value} {xs:List Value} (h:w.ownsRow base e 1 v n xs) (hk:Kept B m w w') (hm:m<n):w'.ownsRow base e 1 v n xs:=by
 obtain ⟨hl,⟨hv,e0⟩ | ⟨g,cap,cur,hv,hg,hh,hc,hx,hs,ht⟩⟩:=h
 ·omega
 ·obtain ⟨fr',h',e'⟩:=hk.cells _ _ _ _ hh;rcases e' with rfl | e'
  ·exact ⟨hl,.inr ⟨g,cap,cur,hv,hg,h',hc,hx,hs,ht⟩⟩
  ·omega
theorem Kept.freeze {B m:Nat} {w:World} {g o n:Nat} {C:Array Value} {t:TypeId} {fr:Nat×Nat} (hg:B≤g) (hC:w.heap[g]?=some (.cells C t fr)) (hm:C.size=m):Kept B m w (w.freeze ⟨g,o,none⟩ n):=by
 unfold World.freeze;split
 ·exact Kept.refl _ _ _
 ·refine ⟨⟨rfl,rfl,rfl,by simp,fun k hk=>?_⟩,fun k C' t' fr' hk=>?_⟩
  ·simp only [Array.getElem?_modify];rw [if_neg (by omega)]
  ·simp only [Array.getElem?_modify];by_cases hgk:g=k
   ·subst hgk;rw [if_pos rfl,hk];rw [hC] at hk;injection hk with hk;injection hk with h1 h2 h3;subst h1;subst h2;subst h3;obtain ⟨lo,hi⟩:=fr;exact ⟨_,rfl,.inr hm⟩
   ·rw [if_neg hgk];exact ⟨fr',hk,.inl rfl⟩
theorem run_convert_own {P:Program} (w:World) (t e:TypeId) (g n c:Nat) (C:Array Value) (fr:Nat×Nat) (hg:w.heap[g]?=some (.cells C e fr)) (ht:P.underlying t=some (.slice e)) (he:P.underlying e=some (.int .u8)) :
 (convert t t (.slice (some ⟨g,0,none⟩) n c)).run P w=.ok (.slice (some ⟨g,0,none⟩) n c) (w.freeze ⟨g,C.size,none⟩ 1):=by
 have hsh:w.shape? g=some (e,C.size):=by
  unfold World.shape?;rw [hg]
 simp [convert,run_underlying ht,run_underlying he,markStringish,hsh]
def Is (v:Value):Value→World→Prop:=fun u _=>u=v
def factsOf (Fs:List (Value→World→Prop)) (i:Nat):Value→World→Prop:=Fs.getD i fun _ _=>True
theorem Kp.grown {g:Nat} {W wr w':World} {r:Option Nat} (h:Kp g W wr) (hg:wr.grownBy w' r) (hr:∀q,r=some q→W.heap.size≤q):Kp g W w':=
 ⟨Nat.le_trans h.size hg.size,fun b hb hl=>(hg.block b (Nat.lt_of_lt_of_le hl h.size) (fun e=>by have:=hr b e.symm;omega)).trans (h.blk b hb hl)⟩
theorem own_kp {g:Nat} {W w:World} {base n s:Nat} {e:TypeId} {v:Value} {xs:List Value} (hk:Kp g W w) (h:W.ownsRow base e s v n xs) (hg:g<base):w.ownsRow base e s v n xs:=by
 obtain ⟨hl,⟨hv,e0⟩ | ⟨q,cap,cur,hv,hb,hq,r⟩⟩:=h
 ·exact ⟨hl,.inl ⟨hv,e0⟩⟩
 ·exact ⟨hl,.inr ⟨q,cap,cur,hv,hb,(hk.blk q (by omega) (Array.getElem?_eq_some_iff.1 hq).1).trans hq,r⟩⟩
theorem own_sh {w:World} {base n s:Nat} {e:TypeId} {v:Value} {xs:List Value} (h:w.ownsRow base e s v n xs):∃x:Sh,x.Ok∧x.n=n∧v=.slice x.a x.n x.c:=by
 rcases h.2 with ⟨hv,e0⟩ | ⟨g,c,cur,hv,_,_,h1,h2,_⟩
 ·exact ⟨Sh.zero,Sh.zero_ok,by rw [e0];rfl,by rw [hv];rfl⟩
 ·exact ⟨⟨some ⟨g,0,none⟩,n,c⟩,⟨h1,by show (c:Int)≤_;unfold maxLen at h2;omega⟩,rfl,hv⟩
theorem outD_nd (zs:List Int):∀(f k:Nat) (s:StD),(outD zs f k s).2.nd.length≤s.nd.length+f
 | 0,k,s=>by simp [outD,stD0]
 | f+1,k,s=>by
   unfold outD;split
   ·simp [stD0]
   ·split
    ·split
     ·exact Nat.le_add_right _ _
     ·simp [stD0]
    ·split
     ·have:=outD_nd zs f (k+1) ⟨s.nd++[valAt zs k],s.v,s.seen⟩;simp only [List.length_append,List.length_cons,List.length_nil] at this;omega
     ·split
      ·simp [stD0]
      ·split
       ·simp [stD0]
       ·rename_i i _ _;have:=outD_nd zs f (k+1) ⟨s.nd,s.v.set i (valAt zs k),s.seen.set i true⟩;simp only at this;omega
theorem getDy_nd (zs:List Int):(getDy zs).2.nd.length≤zs.length+1:=by
 have:=outD_nd zs (zs.length+1) 0 stD0;unfold getDy;simpa [stD0] using this
theorem bytesOf_nums9 (l:List UInt8):Lib.bytesOf (l.map fun c=>(c.toNat:Int))=l:=by
 unfold Lib.bytesOf;rw [List.map_map];conv=>rhs;rw [←List.map_id l]
 refine List.map_congr_left fun c _=>?_;simp
theorem str_inj9 {s t:ByteArray} (h:s.toList=t.toList):s=t:=by
 have e:∀s:ByteArray,s.toList=s.data.toList:=fun s=>by
  have:=Lib.strOfNums_toList (bs s);rw [strOfNums_bs] at this;rw [this,bs,bytesOf_nums9]
 rw [e,e] at h;exact ByteArray.ext (Array.ext' h)
theorem toList_data (s:ByteArray):s.toList=s.data.toList:=by
 have:=Lib.strOfNums_toList (bs s);rw [strOfNums_bs] at this;rw [this,bs,bytesOf_nums9]
theorem empty_list:ByteArray.empty.toList.isEmpty=true:=by rw [toList_data];rfl
theorem ne_list {a:ByteArray} (h:¬a=.empty):a.toList.isEmpty=false:=by
 cases hc:a.toList.isEmpty with
 | false=>rfl
 | true=>
   exfalso
   rw [List.isEmpty_iff] at hc;apply h
   apply str_inj9
   rw [hc,toList_data];rfl
theorem tabY_len (zs:List Int):(tabY zs).2.length≤zs.length:=by
 unfold tabY;split
 ·show (k6_tabS zs (zs.length / 24)).length≤_;rw [k6_tabS_len];omega
 ·exact Nat.zero_le _
theorem tabL_len (zs:List Int):(tabL zs).2.length≤zs.length:=by
 unfold tabL;split
 ·show (k7_tabR zs (zs.length / 24)).length≤_;rw [tabR_len];omega
 ·exact Nat.zero_le _
theorem own_n {w:World} {base n s l c:Nat} {a:Option Addr} {e:TypeId} {xs:List Value} (h:w.ownsRow base e s (.slice a l c) n xs):l=n∧l≤c∧(c:Int)≤9223372036854775807:=by
 rcases h.2 with ⟨hv,e0⟩ | ⟨g,c',cur,hv,_,_,h1,h2,_⟩
 ·injection hv with _ h1 h2;subst h1;subst h2;exact ⟨e0.symm,Nat.le_refl _,by decide⟩
 ·injection hv with _ h3 h4;subst h3;subst h4;exact ⟨rfl,h1,by unfold maxLen at h2;omega⟩
theorem Kp.eleven (W:World) (g:Nat) (v0 v1 v2 v3 v4 v5 v6 v7 v8 v9 v10:Value):Kp g W ((((((((((((W).setCell ⟨g,0,none⟩ v0).setCell ⟨g,1,none⟩ v1).setCell ⟨g,2,none⟩ v2).setCell ⟨g,3,none⟩ v3).setCell ⟨g,4,none⟩ v4).setCell ⟨g,5,none⟩ v5).setCell ⟨g,6,none⟩ v6).setCell ⟨g,7,none⟩ v7).setCell ⟨g,8,none⟩ v8).setCell ⟨g,9,none⟩ v9).setCell ⟨g,10,none⟩ v10):=
 (((((((((((Kp.refl g W).set 0 v0).set 1 v1).set 2 v2).set 3 v3).set 4 v4).set 5 v5).set 6 v6).set 7 v7).set 8 v8).set 9 v9).set 10 v10
theorem below_eleven {w w':World} {r0 B:Nat} (h:Below B w w') (hl:B≤r0) (v0 v1 v2 v3 v4 v5 v6 v7 v8 v9 v10:Value):Below B w ((((((((((((w').setCell ⟨r0,0,none⟩ v0).setCell ⟨r0,1,none⟩ v1).setCell ⟨r0,2,none⟩ v2).setCell ⟨r0,3,none⟩ v3).setCell ⟨r0,4,none⟩ v4).setCell ⟨r0,5,none⟩ v5).setCell ⟨r0,6,none⟩ v6).setCell ⟨r0,7,none⟩ v7).setCell ⟨r0,8,none⟩ v8).setCell ⟨r0,9,none⟩ v9).setCell ⟨r0,10,none⟩ v10):=
 (((((((((((h).setCell hl v0).setCell hl v1).setCell hl v2).setCell hl v3).setCell hl v4).setCell hl v5).setCell hl v6).setCell hl v7).setCell hl v8).setCell hl v9).setCell hl v10
def headReg:Code→Nat
 | .region id _ _=>id
 | .seq a _=>headReg a
 | _=>0
def restAt (n:Nat):Code→Code
 | .seq a b=>if headReg b=n then b else restAt n b
 | c=>c
theorem drop_at {α:Type} (N:List α) (d:α) {k:Nat} (h:k<N.length):N.drop k=N.getD k d :: N.drop (k+1):=by
 rw [List.drop_eq_getElem_cons h,List.getD_eq_getElem?_getD,List.getElem?_eq_getElem h];rfl
def NeedUp (t N:List Int) (k:Nat) (L:List ByteArray):Prop:=(needI t N).1=(needI t (N.drop k)).1∧((needI t (N.drop k)).1=0→(needI t N).2=L++(needI t (N.drop k)).2)
theorem NeedUp.zero (t N:List Int):NeedUp t N 0 []:=⟨rfl,fun _=>rfl⟩
theorem NeedUp.succ {t N:List Int} {k:Nat} {L:List ByteArray} (h:NeedUp t N k L) (hk:k<N.length) (h0:(atN t (N.getD k 0)).1=0) (h1:(atN t (N.getD k 0)).2≠.empty):NeedUp t N (k+1) (L++[(atN t (N.getD k 0)).2]):=by
 have e:needI t (N.drop k)=((needI t (N.drop (k+1))).1,(atN t (N.getD k 0)).2 :: (needI t (N.drop (k+1))).2):=by
  rw [drop_at N 0 hk,needI,if_neg (by rw [h0];simp),if_neg h1]
 obtain ⟨h2,h3⟩:=h;rw [e] at h2 h3;exact ⟨h2,fun h=>by rw [h3 h,List.append_assoc];rfl⟩
theorem NeedUp.err {t N:List Int} {k:Nat} {L:List ByteArray} (h:NeedUp t N k L) (hk:k<N.length) (h0:(atN t (N.getD k 0)).1≠0):(needI t N).1=(atN t (N.getD k 0)).1:=by
 rw [h.1,drop_at N 0 hk,needI,if_pos h0]
theorem NeedUp.form {t N:List Int} {k:Nat} {L:List ByteArray} (h:NeedUp t N k L) (hk:k<N.length) (h0:(atN t (N.getD k 0)).1=0) (h1:(atN t (N.getD k 0)).2=.empty):(needI t N).1=11:=by
 rw [h.1,drop_at N 0 hk,needI,if_neg (by rw [h0];simp),if_pos h1]
theorem NeedUp.all {t N:List Int} {k:Nat} {L:List ByteArray} (h:NeedUp t N k L) (hk:N.length≤k):(needI t N).1=0∧(needI t N).2=L:=by
 obtain ⟨h2,h3⟩:=h;rw [List.drop_eq_nil_of_le hk] at h2 h3;exact ⟨h2,by rw [h3 rfl];simp [needI]⟩
def NamesUp (t:List Int) (N:List Sy) (k:Nat) (L:List ByteArray):Prop:=(namesI t N).1=(namesI t (N.drop k)).1∧((namesI t (N.drop k)).1=0→(namesI t N).2=L++(namesI t (N.drop k)).2)
theorem NamesUp.zero (t:List Int) (N:List Sy):NamesUp t N 0 []:=⟨rfl,fun _=>rfl⟩
theorem NamesUp.succ {t:List Int} {N:List Sy} {k:Nat} {L:List ByteArray} (h:NamesUp t N k L) (hk:k<N.length) (h0:(atN t (N.getD k Sy.zero).na).1=0):NamesUp t N (k+1) (L++[(atN t (N.getD k Sy.zero).na).2]):=by
 have e:namesI t (N.drop k)=((namesI t (N.drop (k+1))).1,(atN t (N.getD k Sy.zero).na).2 :: (namesI t (N.drop (k+1))).2):=by
  rw [drop_at N Sy.zero hk,namesI,if_neg (by rw [h0];simp)]
 obtain ⟨h2,h3⟩:=h;rw [e] at h2 h3;exact ⟨h2,fun h=>by rw [h3 h,List.append_assoc];rfl⟩
theorem NamesUp.err {t:List Int} {N:List Sy} {k:Nat} {L:List ByteArray} (h:NamesUp t N k L) (hk:k<N.length) (h0:(atN t (N.getD k Sy.zero).na).1≠0):(namesI t N).1=(atN t (N.getD k Sy.zero).na).1:=by
 rw [h.1,drop_at N Sy.zero hk,namesI,if_pos h0]
theorem NamesUp.all {t:List Int} {N:List Sy} {k:Nat} {L:List ByteArray} (h:NamesUp t N k L) (hk:N.length≤k):(namesI t N).1=0∧(namesI t N).2=L:=by
 obtain ⟨h2,h3⟩:=h;rw [List.drop_eq_nil_of_le hk] at h2 h3;exact ⟨h2,by rw [h3 rfl];simp [namesI]⟩
theorem own_base9 {w:World} {base base' n s:Nat} {e:TypeId} {v:Value} {xs:List Value} (h:w.ownsRow base e s v n xs) (hb:base'≤base):w.ownsRow base' e s v n xs:=by
 obtain ⟨hl,⟨hv,e0⟩ | ⟨g,cap,cur,hv,hg,r⟩⟩:=h
 ·exact ⟨hl,.inl ⟨hv,e0⟩⟩
 ·exact ⟨hl,.inr ⟨g,cap,cur,hv,Nat.le_trans hb hg,r⟩⟩
theorem Blk.eleven {w:World} {g:Nat} {t:TypeId} {z0 z1 z2 z3 z4 z5 z6 z7 z8 z9 z10:Value} (h:Blk w g #[z0,z1,z2,z3,z4,z5,z6,z7,z8,z9,z10] t) (v0 v1 v2 v3 v4 v5 v6 v7 v8 v9 v10:Value):Blk ((((((((((((w).setCell ⟨g,0,none⟩ v0).setCell ⟨g,1,none⟩ v1).setCell ⟨g,2,none⟩ v2).setCell ⟨g,3,none⟩ v3).setCell ⟨g,4,none⟩ v4).setCell ⟨g,5,none⟩ v5).setCell ⟨g,6,none⟩ v6).setCell ⟨g,7,none⟩ v7).setCell ⟨g,8,none⟩ v8).setCell ⟨g,9,none⟩ v9).setCell ⟨g,10,none⟩ v10) g #[v0,v1,v2,v3,v4,v5,v6,v7,v8,v9,v10] t:=by
 have h1:Blk ((w).setCell ⟨g,0,none⟩ v0) g #[v0,z1,z2,z3,z4,z5,z6,z7,z8,z9,z10] t:=by have q:=h.set 0 v0;exact q
 have h2:Blk (((w).setCell ⟨g,0,none⟩ v0).setCell ⟨g,1,none⟩ v1) g #[v0,v1,z2,z3,z4,z5,z6,z7,z8,z9,z10] t:=by have q:=h1.set 1 v1;exact q
 have h3:Blk ((((w).setCell ⟨g,0,none⟩ v0).setCell ⟨g,1,none⟩ v1).setCell ⟨g,2,none⟩ v2) g #[v0,v1,v2,z3,z4,z5,z6,z7,z8,z9,z10] t:=by have q:=h2.set 2 v2;exact q
 have h4:Blk (((((w).setCell ⟨g,0,none⟩ v0).setCell ⟨g,1,none⟩ v1).setCell ⟨g,2,none⟩ v2).setCell ⟨g,3,none⟩ v3) g #[v0,v1,v2,v3,z4,z5,z6,z7,z8,z9,z10] t:=by have q:=h3.set 3 v3;exact q
 have h5:Blk ((((((w).setCell ⟨g,0,none⟩ v0).setCell ⟨g,1,none⟩ v1).setCell ⟨g,2,none⟩ v2).setCell ⟨g,3,none⟩ v3).setCell ⟨g,4,none⟩ v4) g #[v0,v1,v2,v3,v4,z5,z6,z7,z8,z9,z10] t:=by have q:=h4.set 4 v4;exact q
 have h6:Blk (((((((w).setCell ⟨g,0,none⟩ v0).setCell ⟨g,1,none⟩ v1).setCell ⟨g,2,none⟩ v2).setCell ⟨g,3,none⟩ v3).setCell ⟨g,4,none⟩ v4).setCell ⟨g,5,none⟩ v5) g #[v0,v1,v2,v3,v4,v5,z6,z7,z8,z9,z10] t:=by have q:=h5.set 5 v5;exact q
 have h7:Blk ((((((((w).setCell ⟨g,0,none⟩ v0).setCell ⟨g,1,none⟩ v1).setCell ⟨g,2,none⟩ v2).setCell ⟨g,3,none⟩ v3).setCell ⟨g,4,none⟩ v4).setCell ⟨g,5,none⟩ v5).setCell ⟨g,6,none⟩ v6) g #[v0,v1,v2,v3,v4,v5,v6,z7,z8,z9,z10] t:=by have q:=h6.set 6 v6;exact q
 have h8:Blk (((((((((w).setCell ⟨g,0,none⟩ v0).setCell ⟨g,1,none⟩ v1).setCell ⟨g,2,none⟩ v2).setCell ⟨g,3,none⟩ v3).setCell ⟨g,4,none⟩ v4).setCell ⟨g,5,none⟩ v5).setCell ⟨g,6,none⟩ v6).setCell ⟨g,7,none⟩ v7) g #[v0,v1,v2,v3,v4,v5,v6,v7,z8,z9,z10] t:=by have q:=h7.set 7 v7;exact q
 have h9:Blk ((((((((((w).setCell ⟨g,0,none⟩ v0).setCell ⟨g,1,none⟩ v1).setCell ⟨g,2,none⟩ v2).setCell ⟨g,3,none⟩ v3).setCell ⟨g,4,none⟩ v4).setCell ⟨g,5,none⟩ v5).setCell ⟨g,6,none⟩ v6).setCell ⟨g,7,none⟩ v7).setCell ⟨g,8,none⟩ v8) g #[v0,v1,v2,v3,v4,v5,v6,v7,v8,z9,z10] t:=by have q:=h8.set 8 v8;exact q
 have h10:Blk (((((((((((w).setCell ⟨g,0,none⟩ v0).setCell ⟨g,1,none⟩ v1).setCell ⟨g,2,none⟩ v2).setCell ⟨g,3,none⟩ v3).setCell ⟨g,4,none⟩ v4).setCell ⟨g,5,none⟩ v5).setCell ⟨g,6,none⟩ v6).setCell ⟨g,7,none⟩ v7).setCell ⟨g,8,none⟩ v8).setCell ⟨g,9,none⟩ v9) g #[v0,v1,v2,v3,v4,v5,v6,v7,v8,v9,z10] t:=by have q:=h9.set 9 v9;exact q
 have h11:Blk ((((((((((((w).setCell ⟨g,0,none⟩ v0).setCell ⟨g,1,none⟩ v1).setCell ⟨g,2,none⟩ v2).setCell ⟨g,3,none⟩ v3).setCell ⟨g,4,none⟩ v4).setCell ⟨g,5,none⟩ v5).setCell ⟨g,6,none⟩ v6).setCell ⟨g,7,none⟩ v7).setCell ⟨g,8,none⟩ v8).setCell ⟨g,9,none⟩ v9).setCell ⟨g,10,none⟩ v10) g #[v0,v1,v2,v3,v4,v5,v6,v7,v8,v9,v10] t:=by have q:=h10.set 10 v10;exact q
 exact h11
theorem getD_u64 {V:List Int} (h:∀n∈V,0≤n∧n≤18446744073709551615) (i:Nat):0≤V.getD i 0∧V.getD i 0≤18446744073709551615:=by
 rw [List.getD_eq_getElem?_getD];by_cases hi:i<V.length
 ·rw [List.getElem?_eq_getElem hi];exact h _ (List.getElem_mem hi)
 ·rw [List.getElem?_eq_none (by omega)];simp
end Go.Proofs.YtclgbdfkdbbinaaGreat
namespace Go.Proofs.YtclgbdfkdbbinaaGreat
open Go.RowKit Go.ChangeShapes Go.WideShapes
structure Bs where
 a:Option Addr
 n:Nat
 c:Nat
 zs:List Int
def Bs.zero:Bs:=⟨none,0,0,[]⟩
structure Bs.Ok (w:World) (B:Nat) (b:Bs):Prop where
 bys:Bys w B b.a b.n b.zs
 le:b.n≤b.c
 max:(b.c:Int)≤9223372036854775807
 nil:b.a=none→b.c=0
theorem Bs.zero_ok (w:World) (B:Nat):Bs.zero.Ok w B:=⟨Bys.empty _ _ _,Nat.le_refl _,by decide,fun _=>rfl⟩
theorem Bs.open {H:Type} {enc:TypeId×Value→H} {P:Program} {w:World} {base:Nat} {held:Bool} {t e:TypeId} {fuel:Nat} {cs:List Value} {x:DataW H×List MemPlace}
 (ht:P.underlying t=some (.slice e)) (he:P.underlying e=some (.int .u8)) (hc:P.cellsOf e=1) (h:DataW.trod enc P w base (fun _=>true) held fuel t cs=some x):∃b:Bs,b.Ok w w.heap.size∧cs=[.slice b.a b.n b.c]:=by
 rcases open_ints ht he hc h with ⟨hcs,_⟩ | ⟨a,len,cap,zs,hcs,_,hl,hm,hz,_,hcell,hwz⟩
 ·exact ⟨Bs.zero,Bs.zero_ok _ _,hcs⟩
 ·have hr:IsRow .u8 w (some a) len cap zs:=.inr ⟨a,rfl,hl,hm,by simpa using hz,hcell,hwz⟩;obtain ⟨h1,h2,h3⟩:=hr.bys;exact ⟨⟨some a,len,cap,zs.take len⟩,⟨h1,h2,h3,fun e=>by cases e⟩,hcs⟩
end Go.Proofs.YtclgbdfkdbbinaaGreat
namespace Go.Proofs.YtclgbdfkdbbinaaGreat
open Go.RowKit
structure Df where
 nm:ByteArray
 wh:Int
 of:Int
 wk:Bool
structure Df.Ok (w:World) (B:Nat) (s:Df):Prop where
 nm:s.nm.size≤maxLen
 wh:-9223372036854775808≤s.wh∧s.wh≤9223372036854775807
 of:0≤s.of∧s.of≤18446744073709551615
 wk:s.wk=s.wk
def Df.cells (s:Df):Array Value:=#[.string s.nm,.int .i64 s.wh,.int .u64 s.of,.bool s.wk]
def Df.val (s:Df):Value:=.agg #[.string s.nm,.int .i64 s.wh,.int .u64 s.of,.bool s.wk]
def Df.zero:Df:=⟨ByteArray.empty,0,0,false⟩
theorem Df.Ok.below {w w':World} {B:Nat} {s:Df} (h:s.Ok w B) (hb:Below B w w'):s.Ok w' B:=⟨h.nm,h.wh,h.of,h.wk⟩
theorem Df.Ok.more {w:World} {B B':Nat} {s:Df} (h:s.Ok w B) (hB:B≤B'):s.Ok w B':=⟨h.nm,h.wh,h.of,h.wk⟩
structure Df.At (w:World) (b o:Nat) (s:Df):Prop where
 c0:w.cell? ⟨b,o,none⟩=some (.string s.nm)
 c1:w.cell? ⟨b,o+1,none⟩=some (.int .i64 s.wh)
 c2:w.cell? ⟨b,o+2,none⟩=some (.int .u64 s.of)
 c3:w.cell? ⟨b,o+3,none⟩=some (.bool s.wk)
theorem Df.At.below {w w':World} {B b o:Nat} {s:Df} (h:Df.At w b o s) (hb:Below B w w') (hB:b<B):Df.At w' b o s:=
 ⟨(hb.cell hB).trans h.c0,(hb.cell hB).trans h.c1,(hb.cell hB).trans h.c2,(hb.cell hB).trans h.c3⟩
theorem Df.getD_mem {L:List Df} {k:Nat} (h:k<L.length):L.getD k Df.zero∈L:=by
 rw [List.getD_eq_getElem?_getD,List.getElem?_eq_getElem h];exact List.getElem_mem h
theorem Df.take_snoc {L:List Df} {k:Nat} (h:k<L.length):L.take (k+1)=L.take k++[L.getD k Df.zero]:=by
 rw [List.take_succ_eq_append_getElem h,List.getD_eq_getElem?_getD,List.getElem?_eq_getElem h];rfl
structure Df.Sl (w:World) (B:Nat) (a:Option Addr) (len:Nat) (L:List Df):Prop where
 hl:L.length=len
 hok:∀s∈L,s.Ok w B
 hc:0<len→∃b off,a=some ⟨b,off,none⟩∧b<B∧∀i,i<len→Df.At w b (off+i*4) (L.getD i Df.zero)
theorem Df.Sl.below {w w':World} {B:Nat} {a:Option Addr} {len:Nat} {L:List Df} (h:Df.Sl w B a len L) (hb:Below B w w'):Df.Sl w' B a len L:=
 ⟨h.hl,fun s hs=>(h.hok s hs).below hb,fun hl=>by
  obtain ⟨b,off,e,hB,hc⟩:=h.hc hl;exact ⟨b,off,e,hB,fun i hi=>(hc i hi).below hb hB⟩⟩
theorem Df.Sl.more {w:World} {B B':Nat} {a:Option Addr} {len:Nat} {L:List Df} (h:Df.Sl w B a len L) (hB:B≤B'):Df.Sl w B' a len L:=
 ⟨h.hl,fun s hs=>(h.hok s hs).more hB,fun hl=>by
  obtain ⟨b,off,e,hb,hc⟩:=h.hc hl;exact ⟨b,off,e,Nat.lt_of_lt_of_le hb hB,hc⟩⟩
theorem Df.Sl.empty (w:World) (B:Nat) (a:Option Addr):Df.Sl w B a 0 []:=⟨rfl,fun _ h=>(by cases h),fun h=>absurd h (by omega)⟩
theorem Df.Sl.okAt {w:World} {B:Nat} {a:Option Addr} {len:Nat} {L:List Df} (h:Df.Sl w B a len L) {i:Nat} (hi:i<len):(L.getD i Df.zero).Ok w B:=
 h.hok _ (Df.getD_mem (by have:=h.hl;omega))
structure Fx where
 wh:Int
 of:Int
 ty:Int
 df:Int
 ad:Int
structure Fx.Ok (w:World) (B:Nat) (s:Fx):Prop where
 wh:-9223372036854775808≤s.wh∧s.wh≤9223372036854775807
 of:0≤s.of∧s.of≤18446744073709551615
 ty:0≤s.ty∧s.ty≤4294967295
 df:-9223372036854775808≤s.df∧s.df≤9223372036854775807
 ad:-9223372036854775808≤s.ad∧s.ad≤9223372036854775807
def Fx.cells (s:Fx):Array Value:=#[.int .i64 s.wh,.int .u64 s.of,.int .u32 s.ty,.int .i64 s.df,.int .i64 s.ad]
def Fx.zero:Fx:=⟨0,0,0,0,0⟩
theorem Fx.Ok.below {w w':World} {B:Nat} {s:Fx} (h:s.Ok w B) (hb:Below B w w'):s.Ok w' B:=⟨h.wh,h.of,h.ty,h.df,h.ad⟩
theorem Fx.Ok.more {w:World} {B B':Nat} {s:Fx} (h:s.Ok w B) (hB:B≤B'):s.Ok w B':=⟨h.wh,h.of,h.ty,h.df,h.ad⟩
structure Fx.At (w:World) (b o:Nat) (s:Fx):Prop where
 c0:w.cell? ⟨b,o,none⟩=some (.int .i64 s.wh)
 c1:w.cell? ⟨b,o+1,none⟩=some (.int .u64 s.of)
 c2:w.cell? ⟨b,o+2,none⟩=some (.int .u32 s.ty)
 c3:w.cell? ⟨b,o+3,none⟩=some (.int .i64 s.df)
 c4:w.cell? ⟨b,o+4,none⟩=some (.int .i64 s.ad)
theorem Fx.At.below {w w':World} {B b o:Nat} {s:Fx} (h:Fx.At w b o s) (hb:Below B w w') (hB:b<B):Fx.At w' b o s:=
 ⟨(hb.cell hB).trans h.c0,(hb.cell hB).trans h.c1,(hb.cell hB).trans h.c2,(hb.cell hB).trans h.c3,(hb.cell hB).trans h.c4⟩
theorem Fx.getD_mem {L:List Fx} {k:Nat} (h:k<L.length):L.getD k Fx.zero∈L:=by
 rw [List.getD_eq_getElem?_getD,List.getElem?_eq_getElem h];exact List.getElem_mem h
structure Fx.Sl (w:World) (B:Nat) (a:Option Addr) (len:Nat) (L:List Fx):Prop where
 hl:L.length=len
 hok:∀s∈L,s.Ok w B
 hc:0<len→∃b off,a=some ⟨b,off,none⟩∧b<B∧∀i,i<len→Fx.At w b (off+i*5) (L.getD i Fx.zero)
theorem Fx.Sl.below {w w':World} {B:Nat} {a:Option Addr} {len:Nat} {L:List Fx} (h:Fx.Sl w B a len L) (hb:Below B w w'):Fx.Sl w' B a len L:=
 ⟨h.hl,fun s hs=>(h.hok s hs).below hb,fun hl=>by
  obtain ⟨b,off,e,hB,hc⟩:=h.hc hl;exact ⟨b,off,e,hB,fun i hi=>(hc i hi).below hb hB⟩⟩
theorem Fx.Sl.more {w:World} {B B':Nat} {a:Option Addr} {len:Nat} {L:List Fx} (h:Fx.Sl w B a len L) (hB:B≤B'):Fx.Sl w B' a len L:=
 ⟨h.hl,fun s hs=>(h.hok s hs).more hB,fun hl=>by
  obtain ⟨b,off,e,hb,hc⟩:=h.hc hl;exact ⟨b,off,e,Nat.lt_of_lt_of_le hb hB,hc⟩⟩
theorem Fx.Sl.empty (w:World) (B:Nat) (a:Option Addr):Fx.Sl w B a 0 []:=⟨rfl,fun _ h=>(by cases h),fun h=>absurd h (by omega)⟩
theorem Fx.Sl.okAt {w:World} {B:Nat} {a:Option Addr} {len:Nat} {L:List Fx} (h:Fx.Sl w B a len L) {i:Nat} (hi:i<len):(L.getD i Fx.zero).Ok w B:=
 h.hok _ (Fx.getD_mem (by have:=h.hl;omega))
structure Sp where
 k:Int
 so:ByteArray
 nd:List ByteArray
 en:Int
 co:List Int
 da:List Int
 bs:Int
 tl:List Int
 tb:Int
 df:List Df
 fx:List Fx
structure Spv where
 k:Int
 so:ByteArray
 nd:Sh
 en:Int
 co:Sh
 da:Sh
 bs:Int
 tl:Sh
 tb:Int
 df:Sh
 fx:Sh
def Spv.cells (x:Spv):Array Value:=#[.int .i64 x.k,.string x.so,.slice x.nd.a x.nd.n x.nd.c,.int .u64 x.en,.slice x.co.a x.co.n x.co.c,.slice x.da.a x.da.n x.da.c,.int .u64 x.bs,.slice x.tl.a x.tl.n x.tl.c,.int .u64 x.tb,.slice x.df.a x.df.n x.df.c,.slice x.fx.a x.fx.n x.fx.c]
def Spv.val (x:Spv):Value:=.agg #[.int .i64 x.k,.string x.so,.slice x.nd.a x.nd.n x.nd.c,.int .u64 x.en,.slice x.co.a x.co.n x.co.c,.slice x.da.a x.da.n x.da.c,.int .u64 x.bs,.slice x.tl.a x.tl.n x.tl.c,.int .u64 x.tb,.slice x.df.a x.df.n x.df.c,.slice x.fx.a x.fx.n x.fx.c]
structure Spv.Is (w:World) (B:Nat) (x:Spv) (m:Sp):Prop where
 k:x.k=m.k
 so:x.so=m.so
 nd:Strs w B x.nd.a x.nd.n m.nd
 en:x.en=m.en
 co:Bys w B x.co.a x.co.n m.co
 da:Bys w B x.da.a x.da.n m.da
 bs:x.bs=m.bs
 tl:Bys w B x.tl.a x.tl.n m.tl
 tb:x.tb=m.tb
 df:Df.Sl w B x.df.a x.df.n m.df
 fx:Fx.Sl w B x.fx.a x.fx.n m.fx
 ond:x.nd.Ok
 oco:x.co.Ok
 oda:x.da.Ok
 otl:x.tl.Ok
 odf:x.df.Ok
 ofx:x.fx.Ok
 bk:-9223372036854775808≤m.k∧m.k≤9223372036854775807
 ben:0≤m.en∧m.en≤18446744073709551615
 bbs:0≤m.bs∧m.bs≤18446744073709551615
 btb:0≤m.tb∧m.tb≤18446744073709551615
theorem Spv.Is.below {w w':World} {B:Nat} {x:Spv} {m:Sp} (h:x.Is w B m) (hb:Below B w w'):x.Is w' B m:=
 ⟨h.k,h.so,h.nd.below hb,h.en,h.co.below hb,h.da.below hb,h.bs,h.tl.below hb,h.tb,h.df.below hb,h.fx.below hb,h.ond,h.oco,h.oda,h.otl,h.odf,h.ofx,h.bk,h.ben,h.bbs,h.btb⟩
theorem Spv.Is.more {w:World} {B B':Nat} {x:Spv} {m:Sp} (h:x.Is w B m) (hB:B≤B'):x.Is w B' m:=
 ⟨h.k,h.so,h.nd.more hB,h.en,h.co.more hB,h.da.more hB,h.bs,h.tl.more hB,h.tb,h.df.more hB,h.fx.more hB,h.ond,h.oco,h.oda,h.otl,h.odf,h.ofx,h.bk,h.ben,h.bbs,h.btb⟩
def badDf (d:Df):Bool:=decide (d.wh<0∨3<d.wh)
def badFx (n:Int) (f:Fx):Bool:=decide ((f.wh≠1∧f.wh≠2)∨n≤f.df)
def mayI (m:Sp):Int:=
 if m.k≠2∧m.k≠3 then 1
 else if m.df.any badDf then 1
 else if m.fx.any (badFx m.df.length) then 1
 else if 1048576<m.bs∨1048576<m.tb∨65536<m.co.length+m.da.length+m.tl.length then 13
 else 0
theorem any_at {α:Type} {p:α→Bool} {L:List α} {k:Nat} (d:α) (hk:k<L.length) (h:p (L.getD k d)=true):L.any p=true:=
 List.any_eq_true.2 ⟨_,by rw [List.getD_eq_getElem?_getD,List.getElem?_eq_getElem hk];exact List.getElem_mem hk,h⟩
theorem any_no {α:Type} {p:α→Bool} {L:List α} (d:α) (h:∀k,k<L.length→p (L.getD k d)=false):L.any p=false:=by
 rw [List.any_eq_false];intro x hx;obtain ⟨i,hi,rfl⟩:=List.getElem_of_mem hx;have:=h i hi;rw [List.getD_eq_getElem?_getD,List.getElem?_eq_getElem hi] at this;rw [show p L[i]=false from this];decide
theorem no_upto {P:Nat→Prop} {k:Nat} (h:∀j,j<k→P j) (hk:P k):∀j,j<k+1→P j:=by
 intro j hj;by_cases e:j=k
 ·subst e;exact hk
 ·exact h j (by omega)
end Go.Proofs.YtclgbdfkdbbinaaGreat
