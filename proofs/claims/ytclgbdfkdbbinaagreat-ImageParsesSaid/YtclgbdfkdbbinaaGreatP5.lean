/-
  What is proved here: words and contracts, a part of those that the statement rests on (P5).
  Conditions: none but that the arguments are values of their types.
-/
import Derived.Test.YtclgbdfkdbbinaaGreatP3
import Derived.Test.YtclgbdfkdbbinaaGreatP4
import Derived.Test.YtclgbdfkdbbinaaGreatP1
import Derived.RegionTactic
import Derived.Laws.AppendOwnNone
set_option linter.unusedVariables false
set_option linter.unusedSimpArgs false
set_option maxRecDepth 100000
set_option maxHeartbeats 12800000
namespace Go.Proofs.YtclgbdfkdbbinaaGreat
open Go.RowKit
theorem tagsD_bd:∀n∈tagsD,0≤n∧n≤18446744073709551615:=by decide
theorem tags_any (w:World):Calls Tryz.prog 81 #[] w fun r w'=>r=.returned (.slice (some ⟨w.heap.size,0,none⟩) 7 7)∧Nus w' (w.heap.size+1) (some ⟨w.heap.size,0,none⟩) 7 tagsD∧Below w.heap.size w w':=by
 have HN:Hid (Nus (w.alloc (.cells #[.int .u64 14,.int .u64 5,.int .u64 10,.int .u64 6,.int .u64 1610612749,.int .u64 7,.int .u64 8] 24)) (w.heap.size+1) (some ⟨w.heap.size,0,none⟩) 7 tagsD):=Lib.hid (Nus.lit w tagsD tagsD_bd 24);have hbl:∀o,Below w.heap.size w (w.alloc o):=fun o=>(Below.refl _ _).alloc (Nat.le_refl _) o;go_enter Tryz.func81,Tryz.ntmps81
 go_wp2;go_ret;exact ⟨rfl,HN.out,hbl _⟩
theorem b2 {w:World} {g:Nat} {v0 v1:Value} {t:TypeId} (h:Blk w g #[v0,v1] t):w.cell? ⟨g,0,none⟩=some v0∧w.cell? ⟨g,1,none⟩=some v1:=⟨h.cell 0,h.cell 1⟩
theorem g2 {w:World} {g:Nat} {v0 v1:Value} {t:TypeId} (h:Blk w g #[v0,v1] t):w.frozen? ⟨g,0,none⟩=false∧w.frozen? ⟨g,1,none⟩=false:=⟨h.frozen 0,h.frozen 1⟩
theorem none_any (w:World):Calls Tryz.prog 151 #[] w fun r w'=>(∃g,r=.returned (.agg #[.slice none 0 0,.slice (some ⟨g,0,none⟩) 7 7])∧w'.ownsRow w.heap.size 24 1 (.slice (some ⟨g,0,none⟩) 7 7) 7 (([0,0,0,0,0,0,0]:List Int).map (Value.int .u64)))∧Below w.heap.size w w':=by
 obtain ⟨i0,hi,hz0,hz1,hz2⟩:=info_parts info_u64;have HI:=Lib.hid hi;have HZ0:=Lib.hid hz0;have HZ1:=Lib.hid hz1;have HZ2:=Lib.hid hz2;have HB0:Hid (∀o,Below w.heap.size w (w.alloc o)):=Lib.hid (fun o=>(Below.refl _ _).alloc (Nat.le_refl _) o);clear hi hz0 hz1 hz2;go_enter Tryz.func151,Tryz.ntmps151
 go_wp2_with (at_make;refine wpList_make_full _ rfl _ _ 68 rfl (w.heap.size+1) 24 i0 (.int .u64 0) 1 Tryz.underlying68 HI.out HZ0.out HZ1.out .i64 .i64 _ _ 7 rfl rfl rfl rfl ?c1 ?c2 ?c3 ?_);case c1=>rw [HZ2.out];omega
 case c2=>unfold maxLen;omega
 case c3=>simp
 intro w1 hown hg;have hb1:Below (w.heap.size+1) (w.alloc (.cells #[.slice none 0 0,.slice none 0 0] 91)) w1:=(Below.refl _ _).grown hg (by simp) (fun _ e=>by cases e);obtain ⟨q0,q1⟩:=b2 ((Blk.new w #[.slice none 0 0,.slice none 0 0] 91).below hb1 (Nat.lt_succ_self _));obtain ⟨f0,f1⟩:=g2 ((Blk.new w #[.slice none 0 0,.slice none 0 0] 91).below hb1 (Nat.lt_succ_self _));have HBF:=Lib.hid ((HB0.out _).trans (hb1.mono (Nat.le_succ _)));rw [toList_madeCells_one] at hown;have HOW:=Lib.hid hown;clear hown hg hb1;go_wp2;refine bodyPost_ret (v:=.agg #[.slice none 0 0,.slice (some ⟨w.heap.size+1,0,none⟩) 7 7]) (by simp [results,Tryz.results151,go_sem,q0,q1]) rfl ⟨⟨_,rfl,?_⟩,?_⟩
 ·exact own_base (ownsRow_setCell_below (ownsRow_setCell_below HOW.out (Nat.lt_succ_self _) _) (Nat.lt_succ_self _) _) (Nat.le_succ _)
 ·exact (HBF.out.setCell (Nat.le_refl _) _).setCell (Nat.le_refl _) _
def frameOf (n:Nat) (y:Nat→Value):Array Value:=((List.range n).map y).toArray
theorem frameOf_size (n:Nat) (y:Nat→Value):(frameOf n y).size=n:=by simp [frameOf]
theorem frameOf_get (n:Nat) (y:Nat→Value) (t:Nat) (h:t<n):(frameOf n y)[t]?=some (y t):=by simp [frameOf,h]
theorem frameOf_set (n:Nat) (y:Nat→Value) (t:Nat) (u:Value):(frameOf n y).setIfInBounds t u=frameOf n (fun s=>if s=t then u else y s):=by
 apply Array.ext_getElem?
 intro i;rw [Array.getElem?_setIfInBounds];by_cases hi:i<n
 ·rw [frameOf_get _ _ _ hi,frameOf_get _ _ _ hi,frameOf_size];by_cases h:t=i
  ·subst h;simp [hi]
  ·simp [h,Ne.symm h]
 ·rw [Array.getElem?_eq_none (by rw [frameOf_size];omega),Array.getElem?_eq_none (by rw [frameOf_size];omega),frameOf_size];by_cases h:t=i
  ·subst h;simp [hi]
  ·simp [h]
theorem frameOf_list (x:List Value):x.toArray=frameOf x.length (fun t=>x.getD t undef):=by
 apply Array.ext_getElem?
 intro i;by_cases hi:i<x.length
 ·rw [frameOf_get _ _ _ hi];simp [hi]
 ·rw [Array.getElem?_eq_none (by simpa using hi),Array.getElem?_eq_none (by rw [frameOf_size];omega)]
def StepFact (P:Program) (o:Oper) (a:Act) (w:World) (post:Value→World→Prop):Prop:=
 ∀(K:Act→World→Prop) (Q:Exit→Act→World→Prop),(∀u w',post u w'→K (a.put o.dst u) w')→o.wp P a w K Q
def putAll (v:Nat→Value):Nat→List Nat→List Value→List Value
 | _,[],x=>x
 | i,t :: ts,x=>putAll v (i+1) ts (x.set t (v i))
def factsOk (l:List Oper) (dsts:List Nat) (n:Nat):Bool:=
 decide (l.map (·.dst)=dsts.map some) && decide dsts.Nodup && dsts.all (·<n) &&
 (List.range l.length).all fun i=>match l[i]? with
  | some o=>o.after.toList.all fun e=>!Region.binds .any e || decide (e.on<i)
  | none=>true
def preds (o:Oper):List Nat:=(o.after.toList.filter (Region.binds .any)).map (·.on)
def StepG (P:Program) (L:List Oper) (o:Oper) (a:Act) (w:World) (R:World→World→Prop) (F:Value→World→Prop):Prop:=
 (Region.wanted o (yielded L.toArray a.tmps)=true→StepFact P o a w fun u w'=>R w w'∧F u w')∧(Region.wanted o (yielded L.toArray a.tmps)=false→F undef w)
theorem StepG.plain {P:Program} {L:List Oper} {o:Oper} {a:Act} {w:World} {R:World→World→Prop} {F:Value→World→Prop} (hg:o.guard=none) (h:StepFact P o a w fun u w'=>R w w'∧F u w'):StepG P L o a w R F:=
 ⟨fun _=>h,fun hw=>by
  have:Region.wanted o (yielded L.toArray a.tmps)=true:=by unfold Region.wanted;rw [hg]
  rw [this] at hw;cases hw⟩
theorem wanted_of {L:List Oper} {o g:Oper} {j t:Nat} {b c:Bool} {tmps:Array Value} (hg:o.guard=some (j,b)) (hj:L[j]?=some g) (hd:g.dst=some t) (ht:tmps[t]?=some (.bool c)):Region.wanted o (yielded L.toArray tmps)=(c==b):=by
 unfold Region.wanted yielded;simp [hg,hj,hd,ht]
theorem StepG.yes {P:Program} {L:List Oper} {o:Oper} {n:Nat} {y:Nat→Value} {d:List Deferred} {w:World} {R:World→World→Prop} {F:Value→World→Prop} {g:Oper} {j t:Nat} {b:Bool} (hg:o.guard=some (j,b)) (hj:L[j]?=some g) (hd:g.dst=some t) (htn:t<n) (ht:y t=.bool b)
 (h:StepFact P o ⟨frameOf n y,d⟩ w fun u w'=>R w w'∧F u w'):StepG P L o ⟨frameOf n y,d⟩ w R F:=
 ⟨fun _=>h,fun hw=>by
  rw [wanted_of (c:=b) hg hj hd (by rw [frameOf_get _ _ _ htn,ht])] at hw;simp at hw⟩
def StepsFrom (P:Program) (L:List Oper) (R:World→World→Prop) (n:Nat) (x:List Value) (d:List Deferred) (w0:World) (dsts:List Nat) (F:Nat→Value→World→Prop):Nat→List Oper→Prop
 | _,[]=>True
 | i,o :: l=>(∀(y:Nat→Value) (w:World),R w0 w→(∀t,t ∉ dsts→y t=x.getD t undef)→(∀j,j∈preds o→F j (y (dsts.getD j 0)) w)→
  StepG P L o ⟨frameOf n y,d⟩ w R (F i))∧StepsFrom P L R n x d w0 dsts F (i+1) l
theorem StepsFrom.get {P:Program} {L:List Oper} {R:World→World→Prop} {n:Nat} {x:List Value} {d:List Deferred} {w0:World} {dsts:List Nat} {F:Nat→Value→World→Prop} :
 ∀{l:List Oper} {k:Nat},StepsFrom P L R n x d w0 dsts F k l→∀i o,l[i]?=some o→
  ∀(y:Nat→Value) (w:World),R w0 w→(∀t,t ∉ dsts→y t=x.getD t undef)→(∀j,j∈preds o→F j (y (dsts.getD j 0)) w)→
   StepG P L o ⟨frameOf n y,d⟩ w R (F (k+i))
 | [],_,_,_,_,h=>by simp at h
 | o :: l,k,hs,0,o',h=>by
   simp only [List.getElem?_cons_zero,Option.some.injEq] at h;subst h;exact hs.1
 | o :: l,k,hs,i+1,o',h=>by
   rw [List.getElem?_cons_succ] at h;have:=hs.2.get i o' h
   rwa [show k+1+i=k+(i+1) from by omega] at this
theorem putAll_get (v:Nat→Value):∀(ts:List Nat) (i:Nat) (x:List Value),ts.Nodup→(∀t∈ts,t<x.length)→
 (putAll v i ts x).length=x.length∧(∀j t,ts[j]?=some t→(putAll v i ts x)[t]?=some (v (i+j)))∧∀t,t ∉ ts→(putAll v i ts x)[t]?=x[t]?
 | [],i,x,_,_=>⟨rfl,fun j t h=>by simp at h,fun t _=>rfl⟩
 | s :: ts,i,x,hn,hl=>by
   have hn':=List.nodup_cons.1 hn;obtain ⟨h1,h2,h3⟩:=putAll_get v ts (i+1) (x.set s (v i)) hn'.2 (fun t ht=>by rw [List.length_set];exact hl t (by simp [ht]));refine ⟨by rw [putAll,h1,List.length_set],fun j t hj=>?_,fun t ht=>?_⟩
   ·cases j with
    | zero=>
      simp only [List.getElem?_cons_zero,Option.some.injEq] at hj;subst hj;rw [putAll,h3 s hn'.1,List.getElem?_set_self (hl s (by simp)),Nat.add_zero]
    | succ j=>
      rw [List.getElem?_cons_succ] at hj;rw [putAll,h2 j t hj,show i+1+j=i+(j+1) from by omega]
   ·rw [putAll,h3 t (fun h=>ht (by simp [h])),List.getElem?_set_ne (fun e=>ht (by simp [e]))]
theorem nodup_inj {l:List Nat} (hn:l.Nodup) (i j:Nat) (hi:i<l.length) (hj:j<l.length) (h:l[i]=l[j]):i=j:=by
 have hp:=List.pairwise_iff_getElem.1 hn;rcases Nat.lt_trichotomy i j with hij | hij | hij
 ·exact absurd h (hp i j hi hj hij)
 ·exact hij
 ·exact absurd h.symm (hp j i hj hi hij)
def left (l:Array Bool):Nat:=(l.toList.filter (!·)).length
theorem left_set:∀(l:List Bool) (i:Nat),l[i]?=some false→((l.set i true).filter (!·)).length+1=(l.filter (!·)).length
 | [],i,h=>by simp at h
 | b :: l,0,h=>by
   simp only [List.getElem?_cons_zero,Option.some.injEq] at h;subst h;simp
 | b :: l,i+1,h=>by
   rw [List.getElem?_cons_succ] at h;have:=left_set l i h;cases b<;>simp at this⊢<;>omega
theorem left_zero:∀(l:List Bool),(l.filter (!·)).length=0→∀i,i<l.length→l[i]?=some true
 | [],_,i,h=>by simp at h
 | b :: l,h,i,hi=>by
   cases b with
   | false=>simp at h
   | true=>
     cases i with
     | zero=>rfl
     | succ i=>rw [List.getElem?_cons_succ];exact left_zero l (by simpa using h) i (by simpa using hi)
section
variable {P:Program} {Q:Exit→Act→World→Prop}
theorem wpAny_facts {l:List Oper} {x:List Value} {d:List Deferred} {w0:World} (R:World→World→Prop) (hrf:∀a,R a a) (htr:∀a b c,R a b→R b c→R a c) (dsts:List Nat) (F:Nat→Value→World→Prop)
 (hok:factsOk l dsts x.length=true) (hmono:∀i u w w',F i u w→R w w'→F i u w') (hsteps:StepsFrom P l R x.length x d w0 dsts F 0 l)
 (hend:∀(v:Nat→Value) (w:World),R w0 w→(∀i,i<l.length→F i (v i) w)→Q .normal ⟨(putAll v 0 dsts x).toArray,d⟩ w) :
 ∀(fuel:Nat) (listed:Array Bool) (y:Nat→Value) (w:World),left listed≤fuel→listed.size=l.length→(∀t,t ∉ dsts→y t=x.getD t undef)→
  (∀i,listed[i]?=some true→F i (y (dsts.getD i 0)) w)→R w0 w→wpAny P .any l.toArray Q fuel listed ⟨frameOf x.length y,d⟩ w:=by
 simp only [factsOk,Bool.and_eq_true,decide_eq_true_eq,List.all_eq_true,List.mem_range] at hok;obtain ⟨⟨⟨hd,hnd⟩,hlt⟩,hord⟩:=hok;have hdl:dsts.length=l.length:=by have:=congrArg List.length hd;simpa using this.symm
 have fin:∀(listed:Array Bool) (y:Nat→Value) (w:World),listed.size=l.length→(∀t,t ∉ dsts→y t=x.getD t undef)→
  (∀i,listed[i]?=some true→F i (y (dsts.getD i 0)) w)→R w0 w→(∀i,i<l.length→listed[i]?=some true)→Q .normal ⟨frameOf x.length y,d⟩ w:=by
  intro listed y w hsz hy hF hb hall;have h:=hend (fun i=>y (dsts.getD i 0)) w hb (fun i hi=>hF i (hall i hi));have e:(putAll (fun i=>y (dsts.getD i 0)) 0 dsts x).toArray=frameOf x.length y:=by
   obtain ⟨h1,h2,h3⟩:=putAll_get (fun i=>y (dsts.getD i 0)) dsts 0 x hnd (fun t ht=>by simpa using hlt t ht);apply Array.ext_getElem?
   intro t;rw [List.getElem?_toArray];by_cases ht:t<x.length
   ·rw [frameOf_get _ _ _ ht];by_cases hm:t∈dsts
    ·obtain ⟨j,hj,hjt⟩:=List.getElem_of_mem hm;have hj':dsts[j]?=some t:=by rw [List.getElem?_eq_getElem hj,hjt]
     rw [h2 j t hj',Nat.zero_add,List.getD_eq_getElem?_getD,hj'];rfl
    ·rw [h3 t hm,hy t hm,List.getD_eq_getElem?_getD,List.getElem?_eq_getElem ht];rfl
   ·rw [List.getElem?_eq_none (by omega),Array.getElem?_eq_none (by rw [frameOf_size];omega)]
  rw [e] at h;exact h
 intro fuel;induction fuel with
 | zero=>
   intro listed y w hf hsz hy hF hb;have hall:∀i,i<l.length→listed[i]?=some true:=fun i hi=>by
    have:=left_zero listed.toList (by unfold left at hf;omega) i (by rw [Array.length_toList,hsz];exact hi);simpa using this
   refine ⟨?_,fin listed y w hsz hy hF hb hall⟩;apply List.eq_nil_iff_forall_not_mem.2
   intro j hj;obtain ⟨h0,o,ho,_⟩:=mem_ready.1 hj;have hjl:j<l.length:=by
    have:=(Array.getElem?_eq_some_iff.1 ho).1;simpa using this
   rw [Array.getD_eq_getD_getElem?,hall j hjl] at h0;cases h0
 | succ fuel ih=>
   intro listed y w hf hsz hy hF hb;refine ⟨fun hr=>?_,fun i hi=>?_⟩
   ·
    refine fin listed y w hsz hy hF hb ?_;intro i;induction i using Nat.strongRecOn with
    | ind i ihi=>
      intro hi;cases hli:listed[i]? with
      | none=>rw [Array.getElem?_eq_none_iff] at hli;omega
      | some b=>
        cases b with
        | true=>rfl
        | false=>
          exfalso
          have:i∈Region.ready .any l.toArray listed:=by
           refine mem_ready.2 ⟨by rw [Array.getD_eq_getD_getElem?,hli];rfl,l[i],by rw [List.getElem?_toArray,List.getElem?_eq_getElem hi],fun e he hbe=>?_⟩;have h1:=hord i hi;rw [List.getElem?_eq_getElem hi] at h1;have h2:=List.all_eq_true.1 h1 e (by simpa using he);rw [hbe] at h2;have h3:e.on<i:=by simpa using h2
           rw [Array.getD_eq_getD_getElem?,ihi e.on h3 (by omega)];rfl
          rw [hr] at this;cases this
   ·obtain ⟨h0,o,ho,hall⟩:=mem_ready.1 hi;have ho':l[i]?=some o:=by simpa using ho
    have hil:i<l.length:=(List.getElem?_eq_some_iff.1 ho').1;have hli:listed[i]?=some false:=by
     cases hli:listed[i]? with
     | none=>rw [Array.getElem?_eq_none_iff] at hli;omega
     | some b=>rw [Array.getD_eq_getD_getElem?,hli] at h0;rw [show b=false from h0]
    have hst:=hsteps.get i o ho' y w hb hy (fun j hj=>by
     unfold preds at hj;obtain ⟨e,he,rfl⟩:=List.mem_map.1 hj;obtain ⟨he1,he2⟩:=List.mem_filter.1 he;have:=hall e (by simpa using he1) he2;refine hF e.on ?_;cases hle:listed[e.on]? with
     | none=>rw [Array.getD_eq_getD_getElem?,hle] at this;cases this
     | some b=>rw [Array.getD_eq_getD_getElem?,hle] at this;rw [show b=true from this])
    rw [Nat.zero_add] at hst;have hdi:dsts[i]?=o.dst:=by
     have:=congrArg (fun z=>z[i]?) hd;simp only [List.getElem?_map,ho',Option.map_some] at this;cases hdi:dsts[i]? with
     | none=>rw [hdi] at this;cases this
     | some t=>rw [hdi] at this;simpa using this.symm
    obtain ⟨t,ht⟩:∃t,dsts[i]?=some t:=⟨dsts[i]'(by omega),List.getElem?_eq_getElem (by omega)⟩
    have hdst:o.dst=some t:=hdi▸ht;have after:∀u w',R w w'→F i u w'→wpAny P .any l.toArray Q fuel (listed.setIfInBounds i true) (Act.put ⟨frameOf x.length y,d⟩ o.dst u) w':=by
     intro u w' hbw hFu;have ea:(Act.put ⟨frameOf x.length y,d⟩ o.dst u)=⟨frameOf x.length (fun s=>if s=t then u else y s),d⟩:=by
      rw [hdst];simp only [Act.put,frameOf_set]
     rw [ea];have hlf:=left_set listed.toList i (by simpa using hli);refine ih _ _ _ ?_ (by rw [Array.size_setIfInBounds,hsz]) ?_ ?_ (htr _ _ _ hb hbw)
     ·unfold left at hf⊢;rw [Array.toList_setIfInBounds];omega
     ·intro s hs;have hst:s≠t:=fun e=>hs (e▸List.mem_of_getElem? ht);simp only [hst,if_false];exact hy s hs
     ·intro j hj;by_cases hji:j=i
      ·subst hji;rw [List.getD_eq_getElem?_getD,ht];simpa using hFu
      ·rw [Array.getElem?_setIfInBounds_ne (Ne.symm hji)] at hj;have hjl:j<dsts.length:=by
        have:=(Array.getElem?_eq_some_iff.1 hj).1;omega
       have hne:dsts.getD j 0≠t:=by
        rw [List.getD_eq_getElem?_getD,List.getElem?_eq_getElem hjl];intro e;have hit:dsts[i]'(by omega)=t:=(List.getElem?_eq_some_iff.1 ht).2;have:=nodup_inj hnd j i hjl (by omega) (show dsts[j]=dsts[i]'(by omega) from by rw [hit];simpa using e);exact hji this
       simp only [hne,if_false];exact hmono _ _ _ _ (hF j hj) hbw
    unfold wpOp;rw [ho];simp only
    cases hw:Region.wanted o (yielded l.toArray (frameOf x.length y)) with
    | true=>
      rw [if_pos rfl];exact .inl (hst.1 hw _ _ fun u w' h=>after u w' h.1 h.2)
    | false=>
      rw [if_neg (by decide)];exact after undef w (hrf w) (hst.2 hw)
theorem wp_region_facts {id:Nat} {l:List Oper} {x:List Value} {d:List Deferred} {w:World} (hm:P.follows .mixedOrders=true) (R:World→World→Prop) (hrf:∀a,R a a) (htr:∀a b c,R a b→R b c→R a c)
 (n:Nat) (hn:x.length=n) (dsts:List Nat) (F:Nat→Value→World→Prop)
 (hok:factsOk l dsts n=true) (hmono:∀i u w w',F i u w→R w w'→F i u w') (hsteps:StepsFrom P l R n x d w.drew dsts F 0 l)
 (hend:∀(v:Nat→Value) (w':World),R w.drew w'→(∀i,i<l.length→F i (v i) w')→Q .normal ⟨(putAll v 0 dsts x).toArray,d⟩ w') :
 (Code.region id l.toArray true).wp P Q ⟨x.toArray,d⟩ w:=by
 subst hn;refine wp_region_any hm ?_;change wpAny P .any l.toArray Q _ _ _ w.drew;rw [frameOf_list x];have hl:∀n,((List.replicate n false).filter (!·)).length=n:=fun n=>by induction n with
  | zero=>rfl
  | succ n ih=>rw [List.replicate_succ];simp
 refine wpAny_facts R hrf htr dsts F hok hmono hsteps hend _ _ _ _ ?_ (by simp) (fun t ht=>rfl) ?_ (hrf _)
 ·unfold left;rw [Array.toList_replicate,hl];exact Nat.le_refl _
 ·intro i hi;rw [Array.getElem?_replicate] at hi;split at hi<;>cases hi
theorem putAll_congr {v v':Nat→Value}:∀(ts:List Nat) (i:Nat) (x:List Value),(∀j,i≤j→j<i+ts.length→v j=v' j)→putAll v i ts x=putAll v' i ts x
 | [],_,_,_=>rfl
 | t :: ts,i,x,h=>by
   rw [putAll,putAll,h i (Nat.le_refl _) (by simp),putAll_congr ts (i+1) _ (fun j h1 h2=>h j (by omega) (by simp at h2⊢;omega))]
theorem wp_region_vals {id:Nat} {l:List Oper} {x:List Value} {d:List Deferred} {w:World} (hm:P.follows .mixedOrders=true) (B n:Nat) (hn:x.length=n) (dsts:List Nat) (vs:List Value) (hok:factsOk l dsts n=true)
 (hsteps:StepsFrom P l (Below B) n x d w.drew dsts (fun i u _=>u=vs.getD i undef) 0 l)
 (hend:∀(w':World),Below B w.drew w'→Q .normal ⟨(putAll (fun i=>vs.getD i undef) 0 dsts x).toArray,d⟩ w') :
 (Code.region id l.toArray true).wp P Q ⟨x.toArray,d⟩ w:=by
 refine wp_region_facts hm (Below B) (Below.refl B) (fun _ _ _ h k=>h.trans k) n hn dsts _ hok (fun _ _ _ _ h _=>h) hsteps fun v w' hb hv=>?_;have hdl:dsts.length=l.length:=by
  simp only [factsOk,Bool.and_eq_true,decide_eq_true_eq] at hok;have:=congrArg List.length hok.1.1.1;simpa using this.symm
 rw [putAll_congr (v':=fun i=>vs.getD i undef) dsts 0 x (fun j _ hj=>hv j (by omega))];exact hend w' hb
end
structure Kept (B m:Nat) (w w':World):Prop where
 below:Below B w w'
 cells:∀(k:Nat) C t fr,w.heap[k]?=some (.cells C t fr)→∃fr',w'.heap[k]?=some (.cells C t fr')∧(fr'=fr∨C.size=m)
theorem Kept.refl (B m:Nat) (w:World):Kept B m w w:=⟨Below.refl _ _,fun k C t fr h=>⟨fr,h,.inl rfl⟩⟩
theorem Kept.trans {B m:Nat} {a b c:World} (h:Kept B m a b) (k:Kept B m b c):Kept B m a c:=
 ⟨h.below.trans k.below,fun i C t fr hi=>by
  obtain ⟨fr1,h1,e1⟩:=h.cells i C t fr hi;obtain ⟨fr2,h2,e2⟩:=k.cells i C t fr1 h1;refine ⟨fr2,h2,?_⟩;rcases e1 with rfl | e1
  ·exact e2
  ·exact .inr e1⟩
theorem Kept.of_below {B m:Nat} {w w':World} (hB:B≤w.heap.size) (h:Below w.heap.size w w'):Kept B m w w':=
 ⟨h.mono hB,fun k C t fr hk=>⟨fr,by
  rw [h.block k]
  ·exact hk
  ·exact (Array.getElem?_eq_some_iff.1 hk).1,.inl rfl⟩⟩
theorem Kept.size {B m:Nat} {w w':World} (h:Kept B m w w'):w.heap.size≤w'.heap.size:=h.below.size
theorem Kept.cell {B m:Nat} {w w':World} (h:Kept B m w w') {p:Addr} {v:Value} (hp:w.cell? p=some v):w'.cell? p=some v:=by
 unfold World.cell? at hp⊢;cases hk:w.heap[p.block]? with
 | none=>rw [hk] at hp;cases hp
 | some o=>
   rw [hk] at hp;cases o with
   | cells C t fr=>
     obtain ⟨fr',h',_⟩:=h.cells _ C t fr hk;rw [h'];exact hp
   | _=>cases hp
theorem Bys.kept {B m:Nat} {w w':World} {a:Option Addr} {len:Nat} {zs:List Int} (h:Bys w w.heap.size a len zs) (hk:Kept B m w w'):Bys w' w'.heap.size a len zs:=
 ⟨h.1,h.2.1,fun hl=>by
  obtain ⟨b,off,e,hb,hc⟩:=h.2.2 hl;exact ⟨b,off,e,Nat.lt_of_lt_of_le hb hk.size,fun i hi=>hk.cell (hc i hi)⟩⟩
theorem Cel.kept {B m:Nat} {w w':World} {a:Option Addr} {len:Nat} {vs:List Value} (h:Cel w w.heap.size a len vs) (hk:Kept B m w w'):Cel w' w'.heap.size a len vs:=
 ⟨h.1,fun hl=>by
  obtain ⟨b,off,e,hb,hc⟩:=h.2 hl;refine ⟨b,off,e,Nat.lt_of_lt_of_le hb hk.size,fun i hi=>?_⟩;have:=hc i hi;have hi':i<vs.length:=by have:=h.1;omega
  rw [List.getElem?_eq_getElem hi'] at this⊢;exact hk.cell this⟩
theorem own_kept {B m:Nat} {w w':World} {base n:Nat} {e:TypeId} {v:Value} {xs:List Value} (h:w.ownsRow base e 1 v n xs) (hk:Kept B m w w') (hm:m<n):w'.ownsRow base e 1 v n xs:=by
 obtain ⟨hl,⟨hv,e0⟩ | ⟨g,cap,cur,hv,hg,hh,hc,hx,hs,ht⟩⟩:=h
 ·omega
 ·obtain ⟨fr',h',e'⟩:=hk.cells _ _ _ _ hh;rcases e' with rfl | e'
  ·exact ⟨hl,.inr ⟨g,cap,cur,hv,hg,h',hc,hx,hs,ht⟩⟩
  ·omega
theorem Kept.freeze {B m:Nat} {w:World} {g o n:Nat} {C:Array Value} {t:TypeId} {fr:Nat×Nat} (hg:B≤g) (hC:w.heap[g]?=some (.cells C t fr)) (hm:C.size=m):Kept B m w (w.freeze ⟨g,o,none⟩ n):=by
 unfold World.freeze;split
 ·exact Kept.refl _ _ _
 ·refine ⟨⟨rfl,rfl,rfl,by simp,fun k hk=>?_⟩,fun k C' t' fr' hk=>?_⟩
  ·simp only [Array.getElem?_modify];rw [if_neg (by omega)]
  ·simp only [Array.getElem?_modify];by_cases hgk:g=k
   ·subst hgk;rw [if_pos rfl,hk];rw [hC] at hk;injection hk with hk;injection hk with h1 h2 h3;subst h1;subst h2;subst h3;obtain ⟨lo,hi⟩:=fr;exact ⟨_,rfl,.inr hm⟩
   ·rw [if_neg hgk];exact ⟨fr',hk,.inl rfl⟩
theorem run_convert_own {P:Program} (w:World) (t e:TypeId) (g n c:Nat) (C:Array Value) (fr:Nat×Nat) (hg:w.heap[g]?=some (.cells C e fr)) (ht:P.underlying t=some (.slice e)) (he:P.underlying e=some (.int .u8)) :
 (convert t t (.slice (some ⟨g,0,none⟩) n c)).run P w=.ok (.slice (some ⟨g,0,none⟩) n c) (w.freeze ⟨g,C.size,none⟩ 1):=by
 have hsh:w.shape? g=some (e,C.size):=by
  unfold World.shape?;rw [hg]
 simp [convert,run_underlying ht,run_underlying he,markStringish,hsh]
def Is (v:Value):Value→World→Prop:=fun u _=>u=v
def Stays (a b:World):Prop:=Below a.heap.size a b
theorem Stays.refl (a:World):Stays a a:=Below.refl _ _
theorem Stays.trans (a b c:World) (h:Stays a b) (k:Stays b c):Stays a c:=Below.trans h (k.mono h.size)
def Mono (f:Value→World→Prop):Prop:=∀u w w',f u w→Stays w w'→f u w'
theorem Is.mono (v:Value):Mono (Is v):=fun _ _ _ h _=>h
def factsOf (Fs:List (Value→World→Prop)) (i:Nat):Value→World→Prop:=Fs.getD i fun _ _=>True
theorem factsOf_mono {Fs:List (Value→World→Prop)} (h:∀f∈Fs,Mono f):∀(i:Nat) (u:Value) (w w':World),factsOf Fs i u w→Stays w w'→factsOf Fs i u w':=by
 intro i u w w' h1 hb;unfold factsOf at *;by_cases hi:i<Fs.length
 ·rw [List.getD_eq_getElem?_getD,List.getElem?_eq_getElem hi] at *;exact h _ (List.getElem_mem hi) u w w' h1 hb
 ·rw [List.getD_eq_getElem?_getD,List.getElem?_eq_none (by omega)];trivial
theorem mono_cons {f:Value→World→Prop} {Fs:List (Value→World→Prop)} (h:Mono f) (k:∀g∈Fs,Mono g):∀g∈f :: Fs,Mono g:=by
 intro g hg;rcases List.mem_cons.1 hg with rfl | hg
 ·exact h
 ·exact k g hg
theorem mono_nil:∀g∈([]:List (Value→World→Prop)),Mono g:=fun _ h=>by cases h
structure NSt (w wr:World) (x:Iv):Prop where
 box:Blk wr w.heap.size x.cells 38
 res:Blk wr (w.heap.size+2) iv0.cells 38
 bel:Below w.heap.size w wr
theorem NSt.later {w wr w':World} {x:Iv} (h:NSt w wr x) (hb:Below wr.heap.size wr w'):NSt w w' x:=⟨h.box.later hb,h.res.later hb,h.bel.trans (hb.mono h.bel.size)⟩
theorem NSt.setSo {w wr:World} {x:Iv} (h:NSt w wr x) (v:ByteArray):NSt w (wr.setCell ⟨w.heap.size,5,none⟩ (.string v)) { x with so:=v }:=
 ⟨by have:=h.box.set 5 (.string v);exact this,h.res.setOther (a:=⟨w.heap.size,5,none⟩) (by simp) _,h.bel.setCell (Nat.le_refl _) _⟩
theorem NSt.setNd {w wr:World} {x:Iv} (h:NSt w wr x) (v:Sh):NSt w (wr.setCell ⟨w.heap.size,6,none⟩ (.slice v.a v.n v.c)) { x with nd:=v }:=
 ⟨by have:=h.box.set 6 (.slice v.a v.n v.c);exact this,h.res.setOther (a:=⟨w.heap.size,6,none⟩) (by simp) _,h.bel.setCell (Nat.le_refl _) _⟩
theorem NSt.setNm {w wr:World} {x:Iv} (h:NSt w wr x) (v:Sh):NSt w (wr.setCell ⟨w.heap.size,7,none⟩ (.slice v.a v.n v.c)) { x with nm:=v }:=
 ⟨by have:=h.box.set 7 (.slice v.a v.n v.c);exact this,h.res.setOther (a:=⟨w.heap.size,7,none⟩) (by simp) _,h.bel.setCell (Nat.le_refl _) _⟩
theorem NSt.setSy {w wr:World} {x:Iv} (h:NSt w wr x) (v:Sh):NSt w (wr.setCell ⟨w.heap.size,8,none⟩ (.slice v.a v.n v.c)) { x with sy:=v }:=
 ⟨by have:=h.box.set 8 (.slice v.a v.n v.c);exact this,h.res.setOther (a:=⟨w.heap.size,8,none⟩) (by simp) _,h.bel.setCell (Nat.le_refl _) _⟩
theorem NSt.setRl {w wr:World} {x:Iv} (h:NSt w wr x) (v:Sh):NSt w (wr.setCell ⟨w.heap.size,9,none⟩ (.slice v.a v.n v.c)) { x with rl:=v }:=
 ⟨by have:=h.box.set 9 (.slice v.a v.n v.c);exact this,h.res.setOther (a:=⟨w.heap.size,9,none⟩) (by simp) _,h.bel.setCell (Nat.le_refl _) _⟩
theorem NSt.grown {w wr w':World} {x:Iv} {r:Option Nat} (h:NSt w wr x) (hg:wr.grownBy w' r) (hr:∀q,r=some q→w.heap.size+2<q):NSt w w' x:=
 ⟨h.box.grown hg (fun e=>by have:=hr _ e.symm;omega),h.res.grown hg (fun e=>by have:=hr _ e.symm;omega),h.bel.grown hg h.bel.size (fun q e=>by have:=hr q e;omega)⟩
theorem Kp.grown {g:Nat} {W wr w':World} {r:Option Nat} (h:Kp g W wr) (hg:wr.grownBy w' r) (hr:∀q,r=some q→W.heap.size≤q):Kp g W w':=
 ⟨Nat.le_trans h.size hg.size,fun b hb hl=>(hg.block b (Nat.lt_of_lt_of_le hl h.size) (fun e=>by have:=hr b e.symm;omega)).trans (h.blk b hb hl)⟩
theorem Kp.later {g:Nat} {W wr w':World} (h:Kp g W wr) (hb:Below wr.heap.size wr w'):Kp g W w':=h.trans (Kp.below hb)
theorem own_kp {g:Nat} {W w:World} {base n s:Nat} {e:TypeId} {v:Value} {xs:List Value} (hk:Kp g W w) (h:W.ownsRow base e s v n xs) (hg:g<base):w.ownsRow base e s v n xs:=by
 obtain ⟨hl,⟨hv,e0⟩ | ⟨q,cap,cur,hv,hb,hq,r⟩⟩:=h
 ·exact ⟨hl,.inl ⟨hv,e0⟩⟩
 ·exact ⟨hl,.inr ⟨q,cap,cur,hv,hb,(hk.blk q (by omega) (Array.getElem?_eq_some_iff.1 hq).1).trans hq,r⟩⟩
theorem own_sh {w:World} {base n s:Nat} {e:TypeId} {v:Value} {xs:List Value} (h:w.ownsRow base e s v n xs):∃x:Sh,x.Ok∧x.n=n∧v=.slice x.a x.n x.c:=by
 rcases h.2 with ⟨hv,e0⟩ | ⟨g,c,cur,hv,_,_,h1,h2,_⟩
 ·exact ⟨Sh.zero,Sh.zero_ok,by rw [e0];rfl,by rw [hv];rfl⟩
 ·exact ⟨⟨some ⟨g,0,none⟩,n,c⟩,⟨h1,by show (c:Int)≤_;unfold maxLen at h2;omega⟩,rfl,hv⟩
theorem outD_nd (zs:List Int):∀(f k:Nat) (s:StD),(outD zs f k s).2.nd.length≤s.nd.length+f
 | 0,k,s=>by simp [outD,stD0]
 | f+1,k,s=>by
   unfold outD;split
   ·simp [stD0]
   ·split
    ·split
     ·exact Nat.le_add_right _ _
     ·simp [stD0]
    ·split
     ·have:=outD_nd zs f (k+1) ⟨s.nd++[valAt zs k],s.v,s.seen⟩;simp only [List.length_append,List.length_cons,List.length_nil] at this;omega
     ·split
      ·simp [stD0]
      ·split
       ·simp [stD0]
       ·rename_i i _ _;have:=outD_nd zs f (k+1) ⟨s.nd,s.v.set i (valAt zs k),s.seen.set i true⟩;simp only at this;omega
theorem getDy_nd (zs:List Int):(getDy zs).2.nd.length≤zs.length+1:=by
 have:=outD_nd zs (zs.length+1) 0 stD0;unfold getDy;simpa [stD0] using this
theorem bytesOf_nums9 (l:List UInt8):Lib.bytesOf (l.map fun c=>(c.toNat:Int))=l:=by
 unfold Lib.bytesOf;rw [List.map_map];conv=>rhs;rw [←List.map_id l]
 refine List.map_congr_left fun c _=>?_;simp
theorem str_inj9 {s t:ByteArray} (h:s.toList=t.toList):s=t:=by
 have e:∀s:ByteArray,s.toList=s.data.toList:=fun s=>by
  have:=Lib.strOfNums_toList (bs s);rw [strOfNums_bs] at this;rw [this,bs,bytesOf_nums9]
 rw [e,e] at h;exact ByteArray.ext (Array.ext' h)
theorem toList_data (s:ByteArray):s.toList=s.data.toList:=by
 have:=Lib.strOfNums_toList (bs s);rw [strOfNums_bs] at this;rw [this,bs,bytesOf_nums9]
theorem empty_list:ByteArray.empty.toList.isEmpty=true:=by rw [toList_data];rfl
theorem ne_list {a:ByteArray} (h:¬a=.empty):a.toList.isEmpty=false:=by
 cases hc:a.toList.isEmpty with
 | false=>rfl
 | true=>
   exfalso
   rw [List.isEmpty_iff] at hc;apply h
   apply str_inj9
   rw [hc,toList_data];rfl
theorem tabY_len (zs:List Int):(tabY zs).2.length≤zs.length:=by
 unfold tabY;split
 ·show (k6_tabS zs (zs.length / 24)).length≤_;rw [k6_tabS_len];omega
 ·exact Nat.zero_le _
theorem tabL_len (zs:List Int):(tabL zs).2.length≤zs.length:=by
 unfold tabL;split
 ·show (k7_tabR zs (zs.length / 24)).length≤_;rw [tabR_len];omega
 ·exact Nat.zero_le _
theorem own_n {w:World} {base n s l c:Nat} {a:Option Addr} {e:TypeId} {xs:List Value} (h:w.ownsRow base e s (.slice a l c) n xs):l=n∧l≤c∧(c:Int)≤9223372036854775807:=by
 rcases h.2 with ⟨hv,e0⟩ | ⟨g,c',cur,hv,_,_,h1,h2,_⟩
 ·injection hv with _ h1 h2;subst h1;subst h2;exact ⟨e0.symm,Nat.le_refl _,by decide⟩
 ·injection hv with _ h3 h4;subst h3;subst h4;exact ⟨rfl,h1,by unfold maxLen at h2;omega⟩
theorem Kp.eleven (W:World) (g:Nat) (v0 v1 v2 v3 v4 v5 v6 v7 v8 v9 v10:Value):Kp g W ((((((((((((W).setCell ⟨g,0,none⟩ v0).setCell ⟨g,1,none⟩ v1).setCell ⟨g,2,none⟩ v2).setCell ⟨g,3,none⟩ v3).setCell ⟨g,4,none⟩ v4).setCell ⟨g,5,none⟩ v5).setCell ⟨g,6,none⟩ v6).setCell ⟨g,7,none⟩ v7).setCell ⟨g,8,none⟩ v8).setCell ⟨g,9,none⟩ v9).setCell ⟨g,10,none⟩ v10):=
 (((((((((((Kp.refl g W).set 0 v0).set 1 v1).set 2 v2).set 3 v3).set 4 v4).set 5 v5).set 6 v6).set 7 v7).set 8 v8).set 9 v9).set 10 v10
theorem below_eleven {w w':World} {r0 B:Nat} (h:Below B w w') (hl:B≤r0) (v0 v1 v2 v3 v4 v5 v6 v7 v8 v9 v10:Value):Below B w ((((((((((((w').setCell ⟨r0,0,none⟩ v0).setCell ⟨r0,1,none⟩ v1).setCell ⟨r0,2,none⟩ v2).setCell ⟨r0,3,none⟩ v3).setCell ⟨r0,4,none⟩ v4).setCell ⟨r0,5,none⟩ v5).setCell ⟨r0,6,none⟩ v6).setCell ⟨r0,7,none⟩ v7).setCell ⟨r0,8,none⟩ v8).setCell ⟨r0,9,none⟩ v9).setCell ⟨r0,10,none⟩ v10):=
 (((((((((((h).setCell hl v0).setCell hl v1).setCell hl v2).setCell hl v3).setCell hl v4).setCell hl v5).setCell hl v6).setCell hl v7).setCell hl v8).setCell hl v9).setCell hl v10
def headReg:Code→Nat
 | .region id _ _=>id
 | .seq a _=>headReg a
 | _=>0
def restAt (n:Nat):Code→Code
 | .seq a b=>if headReg b=n then b else restAt n b
 | c=>c
structure NCtx (B:Nat) (w:World) (m:Im) (x:Iv) (V tt:List Int) (tc:Nat):Prop where
 hB:B≤w.heap.size
 hl:m.zs.length≤1000000
 hX:Iv.Is w B x m
 hV:∀i,0≤V.getD i 0∧V.getD i 0≤18446744073709551615
 h1:tt.length≤tc
 h2:(tc:Int)≤9223372036854775807
theorem drop_at {α:Type} (N:List α) (d:α) {k:Nat} (h:k<N.length):N.drop k=N.getD k d :: N.drop (k+1):=by
 rw [List.drop_eq_getElem_cons h,List.getD_eq_getElem?_getD,List.getElem?_eq_getElem h];rfl
def NeedUp (t N:List Int) (k:Nat) (L:List ByteArray):Prop:=(needI t N).1=(needI t (N.drop k)).1∧((needI t (N.drop k)).1=0→(needI t N).2=L++(needI t (N.drop k)).2)
theorem NeedUp.zero (t N:List Int):NeedUp t N 0 []:=⟨rfl,fun _=>rfl⟩
theorem NeedUp.succ {t N:List Int} {k:Nat} {L:List ByteArray} (h:NeedUp t N k L) (hk:k<N.length) (h0:(atN t (N.getD k 0)).1=0) (h1:(atN t (N.getD k 0)).2≠.empty):NeedUp t N (k+1) (L++[(atN t (N.getD k 0)).2]):=by
 have e:needI t (N.drop k)=((needI t (N.drop (k+1))).1,(atN t (N.getD k 0)).2 :: (needI t (N.drop (k+1))).2):=by
  rw [drop_at N 0 hk,needI,if_neg (by rw [h0];simp),if_neg h1]
 obtain ⟨h2,h3⟩:=h;rw [e] at h2 h3;exact ⟨h2,fun h=>by rw [h3 h,List.append_assoc];rfl⟩
theorem NeedUp.err {t N:List Int} {k:Nat} {L:List ByteArray} (h:NeedUp t N k L) (hk:k<N.length) (h0:(atN t (N.getD k 0)).1≠0):(needI t N).1=(atN t (N.getD k 0)).1:=by
 rw [h.1,drop_at N 0 hk,needI,if_pos h0]
theorem NeedUp.form {t N:List Int} {k:Nat} {L:List ByteArray} (h:NeedUp t N k L) (hk:k<N.length) (h0:(atN t (N.getD k 0)).1=0) (h1:(atN t (N.getD k 0)).2=.empty):(needI t N).1=11:=by
 rw [h.1,drop_at N 0 hk,needI,if_neg (by rw [h0];simp),if_pos h1]
theorem NeedUp.all {t N:List Int} {k:Nat} {L:List ByteArray} (h:NeedUp t N k L) (hk:N.length≤k):(needI t N).1=0∧(needI t N).2=L:=by
 obtain ⟨h2,h3⟩:=h;rw [List.drop_eq_nil_of_le hk] at h2 h3;exact ⟨h2,by rw [h3 rfl];simp [needI]⟩
def NamesUp (t:List Int) (N:List Sy) (k:Nat) (L:List ByteArray):Prop:=(namesI t N).1=(namesI t (N.drop k)).1∧((namesI t (N.drop k)).1=0→(namesI t N).2=L++(namesI t (N.drop k)).2)
theorem NamesUp.zero (t:List Int) (N:List Sy):NamesUp t N 0 []:=⟨rfl,fun _=>rfl⟩
theorem NamesUp.succ {t:List Int} {N:List Sy} {k:Nat} {L:List ByteArray} (h:NamesUp t N k L) (hk:k<N.length) (h0:(atN t (N.getD k Sy.zero).na).1=0):NamesUp t N (k+1) (L++[(atN t (N.getD k Sy.zero).na).2]):=by
 have e:namesI t (N.drop k)=((namesI t (N.drop (k+1))).1,(atN t (N.getD k Sy.zero).na).2 :: (namesI t (N.drop (k+1))).2):=by
  rw [drop_at N Sy.zero hk,namesI,if_neg (by rw [h0];simp)]
 obtain ⟨h2,h3⟩:=h;rw [e] at h2 h3;exact ⟨h2,fun h=>by rw [h3 h,List.append_assoc];rfl⟩
theorem NamesUp.err {t:List Int} {N:List Sy} {k:Nat} {L:List ByteArray} (h:NamesUp t N k L) (hk:k<N.length) (h0:(atN t (N.getD k Sy.zero).na).1≠0):(namesI t N).1=(atN t (N.getD k Sy.zero).na).1:=by
 rw [h.1,drop_at N Sy.zero hk,namesI,if_pos h0]
theorem NamesUp.all {t:List Int} {N:List Sy} {k:Nat} {L:List ByteArray} (h:NamesUp t N k L) (hk:N.length≤k):(namesI t N).1=0∧(namesI t N).2=L:=by
 obtain ⟨h2,h3⟩:=h;rw [List.drop_eq_nil_of_le hk] at h2 h3;exact ⟨h2,by rw [h3 rfl];simp [namesI]⟩
structure Nrows (w:World) (base:Nat) (y:Iv) (n:Na):Prop where
 so:y.so=n.so
 nd:w.ownsRow base 9 1 (.slice y.nd.a y.nd.n y.nd.c) n.nd.length (n.nd.map Value.string)
 nm:w.ownsRow base 9 1 (.slice y.nm.a y.nm.n y.nm.c) n.nm.length (n.nm.map Value.string)
 sy:w.ownsRow base 76 6 (.slice y.sy.a y.sy.n y.sy.c) n.sy.length (Sy.flat n.sy)
 rl:w.ownsRow base 78 4 (.slice y.rl.a y.rl.n y.rl.c) n.rl.length (Rl.flat n.rl)
 oks:∀s∈n.sy,s.Ok
 okr:∀s∈n.rl,s.Ok
theorem Nrows.kp {g:Nat} {W w:World} {base:Nat} {y:Iv} {n:Na} (h:Nrows W base y n) (hk:Kp g W w) (hg:g<base):Nrows w base y n:=
 ⟨h.so,own_kp hk h.nd hg,own_kp hk h.nm hg,own_kp hk h.sy hg,own_kp hk h.rl hg,h.oks,h.okr⟩
theorem own_base9 {w:World} {base base' n s:Nat} {e:TypeId} {v:Value} {xs:List Value} (h:w.ownsRow base e s v n xs) (hb:base'≤base):w.ownsRow base' e s v n xs:=by
 obtain ⟨hl,⟨hv,e0⟩ | ⟨g,cap,cur,hv,hg,r⟩⟩:=h
 ·exact ⟨hl,.inl ⟨hv,e0⟩⟩
 ·exact ⟨hl,.inr ⟨g,cap,cur,hv,Nat.le_trans hb hg,r⟩⟩
theorem Nrows.base {w:World} {base base':Nat} {y:Iv} {n:Na} (h:Nrows w base y n) (hb:base'≤base):Nrows w base' y n:=
 ⟨h.so,own_base9 h.nd hb,own_base9 h.nm hb,own_base9 h.sy hb,own_base9 h.rl hb,h.oks,h.okr⟩
theorem Blk.eleven {w:World} {g:Nat} {t:TypeId} {z0 z1 z2 z3 z4 z5 z6 z7 z8 z9 z10:Value} (h:Blk w g #[z0,z1,z2,z3,z4,z5,z6,z7,z8,z9,z10] t) (v0 v1 v2 v3 v4 v5 v6 v7 v8 v9 v10:Value):Blk ((((((((((((w).setCell ⟨g,0,none⟩ v0).setCell ⟨g,1,none⟩ v1).setCell ⟨g,2,none⟩ v2).setCell ⟨g,3,none⟩ v3).setCell ⟨g,4,none⟩ v4).setCell ⟨g,5,none⟩ v5).setCell ⟨g,6,none⟩ v6).setCell ⟨g,7,none⟩ v7).setCell ⟨g,8,none⟩ v8).setCell ⟨g,9,none⟩ v9).setCell ⟨g,10,none⟩ v10) g #[v0,v1,v2,v3,v4,v5,v6,v7,v8,v9,v10] t:=by
 have h1:Blk ((w).setCell ⟨g,0,none⟩ v0) g #[v0,z1,z2,z3,z4,z5,z6,z7,z8,z9,z10] t:=by have q:=h.set 0 v0;exact q
 have h2:Blk (((w).setCell ⟨g,0,none⟩ v0).setCell ⟨g,1,none⟩ v1) g #[v0,v1,z2,z3,z4,z5,z6,z7,z8,z9,z10] t:=by have q:=h1.set 1 v1;exact q
 have h3:Blk ((((w).setCell ⟨g,0,none⟩ v0).setCell ⟨g,1,none⟩ v1).setCell ⟨g,2,none⟩ v2) g #[v0,v1,v2,z3,z4,z5,z6,z7,z8,z9,z10] t:=by have q:=h2.set 2 v2;exact q
 have h4:Blk (((((w).setCell ⟨g,0,none⟩ v0).setCell ⟨g,1,none⟩ v1).setCell ⟨g,2,none⟩ v2).setCell ⟨g,3,none⟩ v3) g #[v0,v1,v2,v3,z4,z5,z6,z7,z8,z9,z10] t:=by have q:=h3.set 3 v3;exact q
 have h5:Blk ((((((w).setCell ⟨g,0,none⟩ v0).setCell ⟨g,1,none⟩ v1).setCell ⟨g,2,none⟩ v2).setCell ⟨g,3,none⟩ v3).setCell ⟨g,4,none⟩ v4) g #[v0,v1,v2,v3,v4,z5,z6,z7,z8,z9,z10] t:=by have q:=h4.set 4 v4;exact q
 have h6:Blk (((((((w).setCell ⟨g,0,none⟩ v0).setCell ⟨g,1,none⟩ v1).setCell ⟨g,2,none⟩ v2).setCell ⟨g,3,none⟩ v3).setCell ⟨g,4,none⟩ v4).setCell ⟨g,5,none⟩ v5) g #[v0,v1,v2,v3,v4,v5,z6,z7,z8,z9,z10] t:=by have q:=h5.set 5 v5;exact q
 have h7:Blk ((((((((w).setCell ⟨g,0,none⟩ v0).setCell ⟨g,1,none⟩ v1).setCell ⟨g,2,none⟩ v2).setCell ⟨g,3,none⟩ v3).setCell ⟨g,4,none⟩ v4).setCell ⟨g,5,none⟩ v5).setCell ⟨g,6,none⟩ v6) g #[v0,v1,v2,v3,v4,v5,v6,z7,z8,z9,z10] t:=by have q:=h6.set 6 v6;exact q
 have h8:Blk (((((((((w).setCell ⟨g,0,none⟩ v0).setCell ⟨g,1,none⟩ v1).setCell ⟨g,2,none⟩ v2).setCell ⟨g,3,none⟩ v3).setCell ⟨g,4,none⟩ v4).setCell ⟨g,5,none⟩ v5).setCell ⟨g,6,none⟩ v6).setCell ⟨g,7,none⟩ v7) g #[v0,v1,v2,v3,v4,v5,v6,v7,z8,z9,z10] t:=by have q:=h7.set 7 v7;exact q
 have h9:Blk ((((((((((w).setCell ⟨g,0,none⟩ v0).setCell ⟨g,1,none⟩ v1).setCell ⟨g,2,none⟩ v2).setCell ⟨g,3,none⟩ v3).setCell ⟨g,4,none⟩ v4).setCell ⟨g,5,none⟩ v5).setCell ⟨g,6,none⟩ v6).setCell ⟨g,7,none⟩ v7).setCell ⟨g,8,none⟩ v8) g #[v0,v1,v2,v3,v4,v5,v6,v7,v8,z9,z10] t:=by have q:=h8.set 8 v8;exact q
 have h10:Blk (((((((((((w).setCell ⟨g,0,none⟩ v0).setCell ⟨g,1,none⟩ v1).setCell ⟨g,2,none⟩ v2).setCell ⟨g,3,none⟩ v3).setCell ⟨g,4,none⟩ v4).setCell ⟨g,5,none⟩ v5).setCell ⟨g,6,none⟩ v6).setCell ⟨g,7,none⟩ v7).setCell ⟨g,8,none⟩ v8).setCell ⟨g,9,none⟩ v9) g #[v0,v1,v2,v3,v4,v5,v6,v7,v8,v9,z10] t:=by have q:=h9.set 9 v9;exact q
 have h11:Blk ((((((((((((w).setCell ⟨g,0,none⟩ v0).setCell ⟨g,1,none⟩ v1).setCell ⟨g,2,none⟩ v2).setCell ⟨g,3,none⟩ v3).setCell ⟨g,4,none⟩ v4).setCell ⟨g,5,none⟩ v5).setCell ⟨g,6,none⟩ v6).setCell ⟨g,7,none⟩ v7).setCell ⟨g,8,none⟩ v8).setCell ⟨g,9,none⟩ v9).setCell ⟨g,10,none⟩ v10) g #[v0,v1,v2,v3,v4,v5,v6,v7,v8,v9,v10] t:=by have q:=h10.set 10 v10;exact q
 exact h11
theorem Nrows.nil (w:World) (base:Nat) (y:Iv) (h0:y.so=.empty) (h1:y.nd=Sh.zero) (h2:y.nm=Sh.zero) (h3:y.sy=Sh.zero) (h4:y.rl=Sh.zero):Nrows w base y na0:=by
 refine ⟨h0,?_,?_,?_,?_,fun _ h=>(by cases h),fun _ h=>(by cases h)⟩
 ·rw [h1];exact World.ownsRow_nil _ _ _ _
 ·rw [h2];exact World.ownsRow_nil _ _ _ _
 ·rw [h3];exact World.ownsRow_nil _ _ _ _
 ·rw [h4];exact World.ownsRow_nil _ _ _ _
theorem Iv.Is.made {w:World} {b base len:Nat} {t:TypeId} {k e s c:Int} {la a:Option Addr} {lc cap:Nat} {L:List Sg} {zs:List Int} {y:Iv} {n:Na} (hsg:w.ownsRow b t 7 (.slice la L.length lc) L.length (flatS L)) (hok:∀s∈L,s.Ok) (hzs:Bys w w.heap.size a len zs) (h1:len≤cap) (h2:(cap:Int)≤9223372036854775807) (h:Nrows w base y n) :
 Iv.Is w w.heap.size ⟨k,e,s,c,⟨la,L.length,lc⟩,y.so,y.nd,y.nm,y.sy,y.rl,⟨a,len,cap⟩⟩ ⟨k,e,s,c,L,n.so,n.nd,n.nm,n.sy,n.rl,zs⟩:=by
 obtain ⟨hso,o1,o2,o3,o4,hy,hr⟩:=h;obtain ⟨n0,l0,c0⟩:=own_n hsg;obtain ⟨n1,l1,c1⟩:=own_n o1;obtain ⟨n2,l2,c2⟩:=own_n o2;obtain ⟨n3,l3,c3⟩:=own_n o3;obtain ⟨n4,l4,c4⟩:=own_n o4;rw [←n1] at o1;rw [←n2] at o2;rw [←n3] at o3;rw [←n4] at o4;exact ⟨rfl,rfl,rfl,rfl,hso,Sgs.own hok hsg,Strs.own o1,Strs.own o2,Sy.Sl.own hy o3,Rl.Sl.own hr o4,hzs,⟨l0,c0⟩,⟨l1,c1⟩,⟨l2,c2⟩,⟨l3,c3⟩,⟨l4,c4⟩,⟨h1,h2⟩⟩
def NamedPost (x:Iv) (Z:Int×Na) (w:World) (e:Ending) (w':World):Prop:=
 (∃y:Iv,e=.returned (.tuple #[y.val,.int .i64 Z.1])∧(Z.1=0→y=⟨x.k,x.e,x.s,x.c,x.sg,y.so,y.nd,y.nm,y.sy,y.rl,x.zs⟩∧Nrows w' w.heap.size y Z.2))∧Below w.heap.size w w'
theorem NamedPost.err {x:Iv} {Z:Int×Na} {w w':World} {E:Int} {r:Ending} (y:Iv) (hZ:Z=(E,na0)) (hE:E≠0) (hr:r=.returned (.tuple #[y.val,.int .i64 E])) (hb:Below w.heap.size w w'):NamedPost x Z w r w':=by
 subst hZ;exact ⟨⟨y,hr,fun h=>absurd h hE⟩,hb⟩
theorem getD_u64 {V:List Int} (h:∀n∈V,0≤n∧n≤18446744073709551615) (i:Nat):0≤V.getD i 0∧V.getD i 0≤18446744073709551615:=by
 rw [List.getD_eq_getElem?_getD];by_cases hi:i<V.length
 ·rw [List.getElem?_eq_getElem hi];exact h _ (List.getElem_mem hi)
 ·rw [List.getElem?_eq_none (by omega)];simp
theorem own_slice9 {w:World} {base n:Nat} {e:TypeId} {v:Value} {xs:List Value} (h:w.ownsRow base e 1 v n xs):∃a c,v=.slice a n c∧n≤c∧(c:Int)≤9223372036854775807:=by
 rcases h.2 with ⟨hv,e0⟩ | ⟨g,c,cur,hv,_,_,h1,h2,_⟩
 ·exact ⟨none,0,by rw [hv,e0],by omega,by omega⟩
 ·exact ⟨_,_,hv,h1,by unfold maxLen at h2;omega⟩
theorem Nus.box {w:World} {B g:Nat} {V:List Int} (h:Nus w B (some ⟨g,0,none⟩) 7 V) {i:Nat} (hi:i<7):w.cell? ⟨g,i,none⟩=some (.int .u64 (V.getD i 0)):=by
 obtain ⟨b,off,e,_,hc⟩:=h.hc (by decide);injection e with e;injection e with e1 e2;subst e1;subst e2;have:=hc i hi
 rwa [Nat.zero_add] at this
def Row9 (g:Nat) (zs:List Int) (u:Value) (w:World):Prop:=∃a c,u=.slice a zs.length c∧zs.length≤c∧(c:Int)≤9223372036854775807∧Bys w w.heap.size a zs.length zs∧(0<zs.length→∃b,a=some ⟨b,0,none⟩∧b≠g)
theorem Row9.mono (g:Nat) (zs:List Int):Mono (Row9 g zs):=fun _ _ _ h hb=>by
 obtain ⟨a,c,e,h1,h2,hm,hn⟩:=h;exact ⟨a,c,e,h1,h2,(hm.below hb).more hb.size,hn⟩
def Pair9 (g:Nat) (e:Int) (zs:List Int) (u:Value) (w:World):Prop:=∃v,u=.tuple #[v,.int .i64 e]∧Row9 g zs v w
theorem Pair9.mono (g:Nat) (e:Int) (zs:List Int):Mono (Pair9 g e zs):=fun _ _ _ h hb=>by
 obtain ⟨v,h1,h2⟩:=h;exact ⟨v,h1,Row9.mono g zs _ _ _ h2 hb⟩
theorem Row9.own {base g:Nat} {w:World} {v:Value} {zs:List Int} (hz:∀n∈zs,0≤n∧n≤255) (hg:g<base) (h:w.ownsRow base 5 1 v zs.length (zs.map (Value.int .u8))):Row9 g zs v w:=by
 obtain ⟨a,c,rfl,h1,h2⟩:=own_slice9 h;refine ⟨a,c,rfl,h1,h2,Bys.own hz h,fun hn=>?_⟩;obtain ⟨b,c',hv,hb⟩:=own_some h hn;injection hv with hv _ _;exact ⟨b,hv,by omega⟩
theorem bytesI_bd' {m:Im} {w:World} {B:Nat} {x:Iv} (h:x.Is w B m) (a s:Int):∀n∈(bytesI m.sg m.zs a s).2,0≤n∧n≤255:=bytesI_bd h.zs.2.1 _ _ _
theorem wpList_append_bys {P:Program} {w:World} {ops:Array Oper} {rest:List Oper} {o:Oper} {a:Act} {Q:Exit→Act→World→Prop} (hgd:o.guard=none) (s x:Operand) (t:TypeId)
 (ho:o.op=.call { callee:=.builtin .append,args:=#[s,x],argTypes:=#[t,t] })
 (base:Nat) (e:TypeId) (i:TypeInfo) (z:Value) (bytes:Nat) (ht:P.underlying t=some (.slice e)) (hi:P.info? e=some i) (hz:i.zero=some z)
 (hsize:i.size=1) (hby:i.bytes=bytes) (hzs:z.cells.size=1)
 (v:Value) (n:Nat) (xs:List Value) (hs:a.eval s=v) (hown:w.ownsRow base e 1 v n xs)
 (ad:Option Addr) (m c:Nat) (B:Nat) (L:List Int) (hx:a.eval x=.slice ad m c) (hst:Bys w B ad m L) (hc:ad=none→c=0)
 (h63:n+m≤maxLen) (hbytes:(n+m)*bytes≤140737488355328) (hbase:base≤w.heap.size)
 (h:∀v' w',w'.ownsRow base e 1 v' (n+m) (xs++L.map (Value.int .u8))→w.grownBy w' v.ownBlock→wpList P ops Q rest (a.put o.dst v') w'):wpList P ops Q (o :: rest) a w:=by
 cases ad with
 | none=>
   have hm:m=0:=by
    rcases Nat.eq_zero_or_pos m with h0 | h0
    ·exact h0
    ·obtain ⟨b,off,e,_⟩:=hst.2.2 h0;cases e
   subst hm;have hL:L=[]:=List.eq_nil_of_length_eq_zero hst.1;subst hL;obtain rfl:=hc rfl;refine wpList_append_own_none hgd s x t ho base e i 1 ht hi v n xs hs hown hx (h v w ?_ ⟨rfl,rfl,rfl,Nat.le_refl _,fun _ _ _=>rfl⟩);simpa using hown
 | some ad=>
   refine wpList_append_own w hgd s x t ho base e i z 1 bytes ht hi hz hsize hby hzs (by decide) v n xs hs hown ad m c (L.map (Value.int .u8)) hx (by rw [List.length_map,hst.1];omega) ?_ (one_u8 L) h63 hbytes hbase (fun v' w' h1 h2 _=>h v' w' h1 h2);intro j u hj;have hjm:j<m:=by
    have:=(List.getElem?_eq_some_iff.1 hj).1;rw [List.length_map,hst.1] at this;exact this
   obtain ⟨b,off,e,_,hcell⟩:=hst.2.2 (by omega);injection e with e;subst e;exact Bys.src hst.1 hcell j u hj
theorem IsRow.nil {k:IntKind} {w:World} {a:Option Addr} {len cap:Nat} {zs:List Int} (h:IsRow k w a len cap zs) (ha:a=none):cap=0:=by
 rcases h with ⟨_,_,h,_⟩ | ⟨x,h,_⟩
 ·exact h
 ·rw [ha] at h;cases h
theorem k6_cells_new (w:World) (L:List Value) (t:TypeId) (g:Nat) (hg:g=w.heap.size):∀(j:Nat) (u:Value),L[j]?=some u→(w.alloc (.cells L.toArray t)).cell? ((⟨g,0,none⟩:Addr).add j)=some u:=by
 intro j u hj;subst hg;rw [add_none,Nat.zero_add,(Blk.new w _ _).cell];simpa using hj
def invOk (l:List Oper) (dsts:List Nat) (n:Nat):Bool:=
 decide (l.length=dsts.length) && decide dsts.Nodup &&
 ((List.range l.length).all fun i=>match l[i]?,dsts[i]? with
   | some o,some t=>o.guard.isNone && ((decide (o.dst=some t) && decide (t<n)) || (o.dst.isNone && decide (n≤t)))
   | _,_=>false) &&
 (List.range l.length).all fun i=>match l[i]? with
  | some o=>o.after.toList.all fun e=>!Region.binds .any e || decide (e.on<i)
  | none=>true
def upd (L:Nat→Bool) (i:Nat):Nat→Bool:=fun j=>if j=i then true else L j
theorem upd_same (L:Nat→Bool) (i:Nat):upd L i i=true:=by simp [upd]
theorem upd_other (L:Nat→Bool) {i j:Nat} (h:j≠i):upd L i j=L j:=by simp [upd,h]
theorem putAll_get' (v:Nat→Value):∀(ts:List Nat) (i:Nat) (x:List Value),ts.Nodup→
 (putAll v i ts x).length=x.length∧(∀j t,ts[j]?=some t→t<x.length→(putAll v i ts x)[t]?=some (v (i+j)))∧∀t,t ∉ ts→(putAll v i ts x)[t]?=x[t]?
 | [],i,x,_=>⟨rfl,fun j t h=>by simp at h,fun t _=>rfl⟩
 | s :: ts,i,x,hn=>by
   have hn':=List.nodup_cons.1 hn;obtain ⟨h1,h2,h3⟩:=putAll_get' v ts (i+1) (x.set s (v i)) hn'.2;refine ⟨by rw [putAll,h1,List.length_set],fun j t hj ht=>?_,fun t ht=>?_⟩
   ·cases j with
    | zero=>
      simp only [List.getElem?_cons_zero,Option.some.injEq] at hj;subst hj;rw [putAll,h3 s hn'.1,List.getElem?_set_self ht,Nat.add_zero]
    | succ j=>
      rw [List.getElem?_cons_succ] at hj;rw [putAll,h2 j t hj (by rw [List.length_set];exact ht),show i+1+j=i+(j+1) from by omega]
   ·rw [putAll,h3 t (fun h=>ht (by simp [h])),List.getElem?_set_ne (fun e=>ht (by simp [e]))]
def StepsInv (P:Program) (J:(Nat→Bool)→World→Prop) (n:Nat) (x:List Value) (d:List Deferred) (dsts:List Nat) (vs:List Value):Nat→List Oper→Prop
 | _,[]=>True
 | i,o :: l=>(∀(L:Nat→Bool) (y:Nat→Value) (w:World),J L w→L i=false→(∀t,t ∉ dsts→y t=x.getD t undef)→(∀j,j∈preds o→L j=true∧(dsts.getD j 0<n→y (dsts.getD j 0)=vs.getD j undef))→
  StepFact P o ⟨frameOf n y,d⟩ w fun u w'=>(dsts.getD i 0<n→u=vs.getD i undef)∧J (upd L i) w')∧StepsInv P J n x d dsts vs (i+1) l
theorem StepsInv.get {P:Program} {J:(Nat→Bool)→World→Prop} {n:Nat} {x:List Value} {d:List Deferred} {dsts:List Nat} {vs:List Value} :
 ∀{l:List Oper} {k:Nat},StepsInv P J n x d dsts vs k l→∀i o,l[i]?=some o→
  ∀(L:Nat→Bool) (y:Nat→Value) (w:World),J L w→L (k+i)=false→(∀t,t ∉ dsts→y t=x.getD t undef)→(∀j,j∈preds o→L j=true∧(dsts.getD j 0<n→y (dsts.getD j 0)=vs.getD j undef))→
   StepFact P o ⟨frameOf n y,d⟩ w fun u w'=>(dsts.getD (k+i) 0<n→u=vs.getD (k+i) undef)∧J (upd L (k+i)) w'
 | [],_,_,_,_,h=>by simp at h
 | o :: l,k,hs,0,o',h=>by
   simp only [List.getElem?_cons_zero,Option.some.injEq] at h;subst h;exact hs.1
 | o :: l,k,hs,i+1,o',h=>by
   rw [List.getElem?_cons_succ] at h;have:=hs.2.get i o' h
   rwa [show k+1+i=k+(i+1) from by omega] at this
section
variable {P:Program} {Q:Exit→Act→World→Prop}
theorem wpAny_inv {l:List Oper} {x:List Value} {d:List Deferred} (dsts:List Nat) (vs:List Value) (J:(Nat→Bool)→World→Prop)
 (hJ:∀L L' w,(∀i,i<l.length→L i=L' i)→J L w→J L' w)
 (hok:invOk l dsts x.length=true) (hsteps:StepsInv P J x.length x d dsts vs 0 l)
 (hend:∀(L:Nat→Bool) (w:World),J L w→(∀i,i<l.length→L i=true)→Q .normal ⟨(putAll (fun i=>vs.getD i undef) 0 dsts x).toArray,d⟩ w) :
 ∀(fuel:Nat) (listed:Array Bool) (y:Nat→Value) (w:World),left listed≤fuel→listed.size=l.length→(∀t,t ∉ dsts→y t=x.getD t undef)→
  (∀i,listed[i]?=some true→dsts.getD i 0<x.length→y (dsts.getD i 0)=vs.getD i undef)→J (fun i=>listed.getD i false) w→wpAny P .any l.toArray Q fuel listed ⟨frameOf x.length y,d⟩ w:=by
 simp only [invOk,Bool.and_eq_true,decide_eq_true_eq,List.all_eq_true,List.mem_range] at hok;obtain ⟨⟨⟨hdl,hnd⟩,hfm⟩,hord⟩:=hok;have fin:∀(listed:Array Bool) (y:Nat→Value) (w:World),listed.size=l.length→(∀t,t ∉ dsts→y t=x.getD t undef)→
  (∀i,listed[i]?=some true→dsts.getD i 0<x.length→y (dsts.getD i 0)=vs.getD i undef)→J (fun i=>listed.getD i false) w→(∀i,i<l.length→listed[i]?=some true)→Q .normal ⟨frameOf x.length y,d⟩ w:=by
  intro listed y w hsz hy hF hb hall;have h:=hend _ w hb (fun i hi=>by rw [Array.getD_eq_getD_getElem?,hall i hi];rfl);have e:(putAll (fun i=>vs.getD i undef) 0 dsts x).toArray=frameOf x.length y:=by
   obtain ⟨h1,h2,h3⟩:=putAll_get' (fun i=>vs.getD i undef) dsts 0 x hnd;apply Array.ext_getElem?
   intro t;rw [List.getElem?_toArray];by_cases ht:t<x.length
   ·rw [frameOf_get _ _ _ ht];by_cases hm:t∈dsts
    ·obtain ⟨j,hj,hjt⟩:=List.getElem_of_mem hm;have hj':dsts[j]?=some t:=by rw [List.getElem?_eq_getElem hj,hjt]
     have hjd:dsts.getD j 0=t:=by rw [List.getD_eq_getElem?_getD,hj'];rfl
     rw [h2 j t hj' ht,Nat.zero_add];have:=hF j (hall j (by omega)) (by rw [hjd];exact ht);rw [hjd] at this;rw [this]
    ·rw [h3 t hm,hy t hm,List.getD_eq_getElem?_getD,List.getElem?_eq_getElem ht];rfl
   ·rw [List.getElem?_eq_none (by omega),Array.getElem?_eq_none (by rw [frameOf_size];omega)]
  rw [e] at h;exact h
 intro fuel;induction fuel with
 | zero=>
   intro listed y w hf hsz hy hF hb;have hall:∀i,i<l.length→listed[i]?=some true:=fun i hi=>by
    have:=left_zero listed.toList (by unfold left at hf;omega) i (by rw [Array.length_toList,hsz];exact hi);simpa using this
   refine ⟨?_,fin listed y w hsz hy hF hb hall⟩;apply List.eq_nil_iff_forall_not_mem.2
   intro j hj;obtain ⟨h0,o,ho,_⟩:=mem_ready.1 hj;have hjl:j<l.length:=by
    have:=(Array.getElem?_eq_some_iff.1 ho).1;simpa using this
   rw [Array.getD_eq_getD_getElem?,hall j hjl] at h0;cases h0
 | succ fuel ih=>
   intro listed y w hf hsz hy hF hb;refine ⟨fun hr=>?_,fun i hi=>?_⟩
   ·refine fin listed y w hsz hy hF hb ?_;intro i;induction i using Nat.strongRecOn with
    | ind i ihi=>
      intro hi;cases hli:listed[i]? with
      | none=>rw [Array.getElem?_eq_none_iff] at hli;omega
      | some b=>
        cases b with
        | true=>rfl
        | false=>
          exfalso
          have:i∈Region.ready .any l.toArray listed:=by
           refine mem_ready.2 ⟨by rw [Array.getD_eq_getD_getElem?,hli];rfl,l[i],by rw [List.getElem?_toArray,List.getElem?_eq_getElem hi],fun e he hbe=>?_⟩;have h1:=hord i hi;rw [List.getElem?_eq_getElem hi] at h1;have h2:=List.all_eq_true.1 h1 e (by simpa using he);rw [hbe] at h2;have h3:e.on<i:=by simpa using h2
           rw [Array.getD_eq_getD_getElem?,ihi e.on h3 (by omega)];rfl
          rw [hr] at this;cases this
   ·obtain ⟨h0,o,ho,hall⟩:=mem_ready.1 hi;have ho':l[i]?=some o:=by simpa using ho
    have hil:i<l.length:=(List.getElem?_eq_some_iff.1 ho').1;have hli:listed[i]?=some false:=by
     cases hli:listed[i]? with
     | none=>rw [Array.getElem?_eq_none_iff] at hli;omega
     | some b=>rw [Array.getD_eq_getD_getElem?,hli] at h0;rw [show b=false from h0]
    have hst:=hsteps.get i o ho' (fun i=>listed.getD i false) y w hb (by rw [Nat.zero_add];show listed.getD i false=false;rw [Array.getD_eq_getD_getElem?,hli];rfl) hy (fun j hj=>by
     unfold preds at hj;obtain ⟨e,he,rfl⟩:=List.mem_map.1 hj;obtain ⟨he1,he2⟩:=List.mem_filter.1 he;have hl:=hall e (by simpa using he1) he2;refine ⟨hl,hF e.on ?_⟩;cases hle:listed[e.on]? with
     | none=>rw [Array.getD_eq_getD_getElem?,hle] at hl;cases hl
     | some b=>rw [Array.getD_eq_getD_getElem?,hle] at hl;rw [show b=true from hl])
    rw [Nat.zero_add] at hst;obtain ⟨t,ht⟩:∃t,dsts[i]?=some t:=⟨dsts[i]'(by omega),List.getElem?_eq_getElem (by omega)⟩
    have htd:dsts.getD i 0=t:=by rw [List.getD_eq_getElem?_getD,ht];rfl
    have hfi:=hfm i hil;rw [ho',ht] at hfi;simp only [Bool.and_eq_true,Bool.or_eq_true,decide_eq_true_eq] at hfi;obtain ⟨hgd,hfi⟩:=hfi;have after:∀u w',((dsts.getD i 0<x.length→u=vs.getD i undef)∧J (upd (fun i=>listed.getD i false) i) w')→wpAny P .any l.toArray Q fuel (listed.setIfInBounds i true) (Act.put ⟨frameOf x.length y,d⟩ o.dst u) w':=by
     rintro u w' ⟨hu,hJw⟩;rw [htd] at hu;have ea:(Act.put ⟨frameOf x.length y,d⟩ o.dst u)=⟨frameOf x.length (fun s=>if s=t then u else y s),d⟩:=by
      rcases hfi with ⟨h1,h2⟩ | ⟨h1,h2⟩
      ·rw [h1];simp only [Act.put,frameOf_set]
      ·have:o.dst=none:=by simpa using h1
       rw [this];simp only [Act.put]
       congr 1
       apply Array.ext_getElem?
       intro s;by_cases hs:s<x.length
       ·rw [frameOf_get _ _ _ hs,frameOf_get _ _ _ hs,if_neg (by omega)]
       ·rw [Array.getElem?_eq_none (by rw [frameOf_size];omega),Array.getElem?_eq_none (by rw [frameOf_size];omega)]
     rw [ea];have hlf:=left_set listed.toList i (by simpa using hli);refine ih _ _ _ ?_ (by rw [Array.size_setIfInBounds,hsz]) ?_ ?_ (hJ _ _ _ ?_ hJw)
     ·unfold left at hf⊢;rw [Array.toList_setIfInBounds];omega
     ·intro s hs;have hst:s≠t:=fun e=>hs (e▸List.mem_of_getElem? ht);simp only [hst,if_false];exact hy s hs
     ·intro j hj hjt;by_cases hji:j=i
      ·subst hji;rw [htd] at hjt⊢;simpa using hu hjt
      ·rw [Array.getElem?_setIfInBounds_ne (Ne.symm hji)] at hj;have hjl:j<dsts.length:=by
        have:=(Array.getElem?_eq_some_iff.1 hj).1;omega
       have hne:dsts.getD j 0≠t:=by
        rw [List.getD_eq_getElem?_getD,List.getElem?_eq_getElem hjl];intro e;have hit:dsts[i]'(by omega)=t:=(List.getElem?_eq_some_iff.1 ht).2;have:=nodup_inj hnd j i hjl (by omega) (show dsts[j]=dsts[i]'(by omega) from by rw [hit];simpa using e);exact hji this
       simp only [hne,if_false];exact hF j hj hjt
     ·intro j hj;by_cases hji:j=i
      ·subst hji;rw [upd_same,Array.getD_eq_getD_getElem?,Array.getElem?_setIfInBounds_self_of_lt (by omega)];rfl
      ·rw [upd_other _ hji,Array.getD_eq_getD_getElem?,Array.getD_eq_getD_getElem?,Array.getElem?_setIfInBounds_ne (Ne.symm hji)]
    unfold wpOp;rw [ho];simp only
    have hw:Region.wanted o (yielded l.toArray (frameOf x.length y))=true:=by
     have:o.guard=none:=by simpa using hgd
     unfold Region.wanted;rw [this]
    rw [if_pos hw];exact .inl (hst _ _ after)
theorem wp_region_inv {id:Nat} {l:List Oper} {x:List Value} {d:List Deferred} {w:World} (hm:P.follows .mixedOrders=true) (n:Nat) (hn:x.length=n) (dsts:List Nat) (vs:List Value) (J:(Nat→Bool)→World→Prop)
 (hJ:∀L L' w,(∀i,i<l.length→L i=L' i)→J L w→J L' w)
 (hok:invOk l dsts n=true) (hst:J (fun _=>false) w.drew) (hsteps:StepsInv P J n x d dsts vs 0 l)
 (hend:∀(L:Nat→Bool) (w':World),J L w'→(∀i,i<l.length→L i=true)→Q .normal ⟨(putAll (fun i=>vs.getD i undef) 0 dsts x).toArray,d⟩ w') :
 (Code.region id l.toArray true).wp P Q ⟨x.toArray,d⟩ w:=by
 subst hn;refine wp_region_any hm ?_;change wpAny P .any l.toArray Q _ _ _ w.drew;rw [frameOf_list x];have hl:∀n,((List.replicate n false).filter (!·)).length=n:=fun n=>by induction n with
  | zero=>rfl
  | succ n ih=>rw [List.replicate_succ];simp
 refine wpAny_inv dsts vs J hJ hok hsteps hend _ _ _ _ ?_ (by simp) (fun t ht=>rfl) ?_ (hJ _ _ _ ?_ hst)
 ·unfold left;rw [Array.toList_replicate,hl];exact Nat.le_refl _
 ·intro i hi;rw [Array.getElem?_replicate] at hi;split at hi<;>cases hi
 ·intro i hi;rw [Array.getD_eq_getD_getElem?,Array.getElem?_replicate];split<;>rfl
end
theorem step_move {P:Program} {o:Oper} {a:Act} {w:World} {post:Value→World→Prop} (x:Operand) (ho:o.op=.move x∨o.op=.assign x) (h:post (a.eval x) w):StepFact P o a w post:=by
 intro K Q hK;have:=hK _ _ h;unfold Oper.wp Oper.upon;rcases ho with ho | ho<;>simpa [execOp,ho,Result.andThen] using this
end Go.Proofs.YtclgbdfkdbbinaaGreat
