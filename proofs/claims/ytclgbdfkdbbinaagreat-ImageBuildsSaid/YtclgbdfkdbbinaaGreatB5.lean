/-
  What is proved here: words and contracts, a part of those that the statement rests on (B5).
  Conditions: none but that the arguments are values of their types.
-/
import Derived.Test.YtclgbdfkdbbinaaGreatB0
import Derived.Test.YtclgbdfkdbbinaaGreatB4
import Derived.Test.YtclgbdfkdbbinaaGreatB1
import Derived.Test.YtclgbdfkdbbinaaGreatB3
import Derived.Laws.AppendOwnNone
set_option linter.unusedVariables false
set_option linter.unusedSimpArgs false
set_option maxRecDepth 100000
set_option maxHeartbeats 12800000
namespace Go.Proofs.YtclgbdfkdbbinaaGreat
open Go.RowKit
theorem Kp.grown {g:Nat} {W wr w':World} {r:Option Nat} (h:Kp g W wr) (hg:wr.grownBy w' r) (hr:∀q,r=some q→W.heap.size≤q):Kp g W w':=
 ⟨Nat.le_trans h.size hg.size,fun b hb hl=>(hg.block b (Nat.lt_of_lt_of_le hl h.size) (fun e=>by have:=hr b e.symm;omega)).trans (h.blk b hb hl)⟩
theorem cd {g:Nat} {W w:World} {base n s:Nat} {e:TypeId} {v:Value} {xs:List Value} (hk:Kp g W w) (h:W.ownsRow base e s v n xs) (hg:g<base):w.ownsRow base e s v n xs:=by
 obtain ⟨hl,⟨hv,e0⟩ | ⟨q,cap,cur,hv,hb,hq,r⟩⟩:=h
 ·exact ⟨hl,.inl ⟨hv,e0⟩⟩
 ·exact ⟨hl,.inr ⟨q,cap,cur,hv,hb,(hk.blk q oZm (Array.getElem?_eq_some_iff.1 hq).1).trans hq,r⟩⟩
theorem dP {w:World} {base n s:Nat} {e:TypeId} {v:Value} {xs:List Value} (h:w.ownsRow base e s v n xs):∃x:Sh,x.Ok∧x.n=n∧v=.slice x.a x.n x.c:=by
 rcases h.2 with ⟨hv,e0⟩ | ⟨g,c,cur,hv,_,_,h1,h2,_⟩
 ·exact ⟨Sh.zero,Sh.zero_ok,by rw [e0];rfl,by rw [hv];rfl⟩
 ·exact ⟨⟨some ⟨g,0,none⟩,n,c⟩,⟨h1,by show (c:Int)≤_;unfold maxLen at h2;omega⟩,rfl,hv⟩
theorem mp (zs:List Int):∀(f k:Nat) (s:StD),(eM zs f k s).2.nd.length≤s.nd.length+f
 | 0,k,s=>by simp [eM,dq]
 | f+1,k,s=>by
   unfold eM;split
   ·simp [dq]
   ·split
    ·split
     ·exact Nat.le_add_right _ _
     ·simp [dq]
    ·split
     ·have:=mp zs f (k+1) ⟨s.nd++[fF zs k],s.v,s.seen⟩;simp only [lZa,List.length_cons,List.length_nil] at this;omega
     ·split
      ·simp [dq]
      ·split
       ·simp [dq]
       ·rename_i i _ _;have:=mp zs f (k+1) ⟨s.nd,s.v.set i (fF zs k),s.seen.set i true⟩;simp only at this;omega
theorem ub (zs:List Int):(dS zs).2.nd.length≤zs.length+1:=by
 have:=mp zs (zs.length+1) 0 dq;unfold dS;simpa [dq] using this
theorem ip (l:List UInt8):Lib.bytesOf (l.map fun c=>(c.toNat:Int))=l:=by
 unfold Lib.bytesOf;rw [List.map_map];conv=>rhs;rw [←List.map_id l]
 refine List.map_congr_left fun c _=>?_;simp
theorem tC {s t:ByteArray} (h:s.toList=t.toList):s=t:=by
 have e:∀s:ByteArray,s.toList=s.data.toList:=fun s=>by
  have:=Lib.strOfNums_toList (bs s);rw [gh] at this;rw [this,bs,ip]
 rw [e,e] at h;exact ByteArray.ext (Array.ext' h)
theorem toList_data (s:ByteArray):s.toList=s.data.toList:=by
 have:=Lib.strOfNums_toList (bs s);rw [gh] at this;rw [this,bs,ip]
theorem oJ:ByteArray.empty.toList.isEmpty=true:=by rw [toList_data];rfl
theorem uU {a:ByteArray} (h:¬a=.empty):a.toList.isEmpty=false:=by
 cases hc:a.toList.isEmpty with
 | false=>rfl
 | true=>
   exfalso
   rw [List.isEmpty_iff] at hc;apply h
   apply tC
   rw [hc,toList_data];rfl
theorem tV (zs:List Int):(el zs).2.length≤zs.length:=by
 unfold el;split
 ·show (dA zs (zs.length / 24)).length≤_;rw [jL];omega
 ·exact Nat.zero_le _
theorem td (zs:List Int):(fq zs).2.length≤zs.length:=by
 unfold fq;split
 ·show (cy zs (zs.length / 24)).length≤_;rw [nD];omega
 ·exact Nat.zero_le _
theorem cT {w:World} {base n s l c:Nat} {a:Option Addr} {e:TypeId} {xs:List Value} (h:w.ownsRow base e s (.slice a l c) n xs):l=n∧l≤c∧(c:Int)≤9223372036854775807:=by
 rcases h.2 with ⟨hv,e0⟩ | ⟨g,c',cur,hv,_,_,h1,h2,_⟩
 ·injection hv with _ h1 h2;subst h1;subst h2;exact ⟨e0.symm,lZr _,by decide⟩
 ·injection hv with _ h3 h4;subst h3;subst h4;exact ⟨rfl,h1,by unfold maxLen at h2;omega⟩
theorem Kp.eleven (W:World) (g:Nat) (v0 v1 v2 v3 v4 v5 v6 v7 v8 v9 v10:Value):Kp g W ((((((((((((W).setCell ⟨g,0,none⟩ v0).setCell ⟨g,1,none⟩ v1).setCell ⟨g,2,none⟩ v2).setCell ⟨g,3,none⟩ v3).setCell ⟨g,4,none⟩ v4).setCell ⟨g,5,none⟩ v5).setCell ⟨g,6,none⟩ v6).setCell ⟨g,7,none⟩ v7).setCell ⟨g,8,none⟩ v8).setCell ⟨g,9,none⟩ v9).setCell ⟨g,10,none⟩ v10):=
 (((((((((((Kp.refl g W).set 0 v0).set 1 v1).set 2 v2).set 3 v3).set 4 v4).set 5 v5).set 6 v6).set 7 v7).set 8 v8).set 9 v9).set 10 v10
theorem gu {w w':World} {r0 B:Nat} (h:Below B w w') (hl:B≤r0) (v0 v1 v2 v3 v4 v5 v6 v7 v8 v9 v10:Value):Below B w ((((((((((((w').setCell ⟨r0,0,none⟩ v0).setCell ⟨r0,1,none⟩ v1).setCell ⟨r0,2,none⟩ v2).setCell ⟨r0,3,none⟩ v3).setCell ⟨r0,4,none⟩ v4).setCell ⟨r0,5,none⟩ v5).setCell ⟨r0,6,none⟩ v6).setCell ⟨r0,7,none⟩ v7).setCell ⟨r0,8,none⟩ v8).setCell ⟨r0,9,none⟩ v9).setCell ⟨r0,10,none⟩ v10):=
 (((((((((((h).setCell hl v0).setCell hl v1).setCell hl v2).setCell hl v3).setCell hl v4).setCell hl v5).setCell hl v6).setCell hl v7).setCell hl v8).setCell hl v9).setCell hl v10
def qm:Code→Nat
 | .region id _ _=>id
 | .seq a _=>qm a
 | _=>0
def aq (n:Nat):Code→Code
 | .seq a b=>if qm b=n then b else aq n b
 | c=>c
theorem ic {α:Type} (N:List α) (d:α) {k:Nat} (h:k<N.length):N.drop k=N.getD k d :: N.drop (k+1):=by
 rw [List.drop_eq_getElem_cons h,gZe,gZg h];rfl
def ep (t N:List Int) (k:Nat) (L:List ByteArray):Prop:=(bX t N).1=(bX t (N.drop k)).1∧((bX t (N.drop k)).1=0→(bX t N).2=L++(bX t (N.drop k)).2)
theorem ep.zero (t N:List Int):ep t N 0 []:=⟨rfl,fun _=>rfl⟩
theorem ep.succ {t N:List Int} {k:Nat} {L:List ByteArray} (h:ep t N k L) (hk:k<N.length) (h0:(atN t (N.getD k 0)).1=0) (h1:(atN t (N.getD k 0)).2≠.empty):ep t N (k+1) (L++[(atN t (N.getD k 0)).2]):=by
 have e:bX t (N.drop k)=((bX t (N.drop (k+1))).1,(atN t (N.getD k 0)).2 :: (bX t (N.drop (k+1))).2):=by
  rw [ic N 0 hk,bX,if_neg (by rw [h0];simp),if_neg h1]
 obtain ⟨h2,h3⟩:=h;rw [e] at h2 h3;exact ⟨h2,fun h=>by rw [h3 h,List.append_assoc];rfl⟩
theorem ep.err {t N:List Int} {k:Nat} {L:List ByteArray} (h:ep t N k L) (hk:k<N.length) (h0:(atN t (N.getD k 0)).1≠0):(bX t N).1=(atN t (N.getD k 0)).1:=by
 rw [h.1,ic N 0 hk,bX,if_pos h0]
theorem ep.form {t N:List Int} {k:Nat} {L:List ByteArray} (h:ep t N k L) (hk:k<N.length) (h0:(atN t (N.getD k 0)).1=0) (h1:(atN t (N.getD k 0)).2=.empty):(bX t N).1=11:=by
 rw [h.1,ic N 0 hk,bX,if_neg (by rw [h0];simp),if_pos h1]
theorem ep.all {t N:List Int} {k:Nat} {L:List ByteArray} (h:ep t N k L) (hk:N.length≤k):(bX t N).1=0∧(bX t N).2=L:=by
 obtain ⟨h2,h3⟩:=h;rw [List.drop_eq_nil_of_le hk] at h2 h3;exact ⟨h2,by rw [h3 rfl];simp [bX]⟩
def ee (t:List Int) (N:List Sy) (k:Nat) (L:List ByteArray):Prop:=(bx t N).1=(bx t (N.drop k)).1∧((bx t (N.drop k)).1=0→(bx t N).2=L++(bx t (N.drop k)).2)
theorem ee.zero (t:List Int) (N:List Sy):ee t N 0 []:=⟨rfl,fun _=>rfl⟩
theorem ee.succ {t:List Int} {N:List Sy} {k:Nat} {L:List ByteArray} (h:ee t N k L) (hk:k<N.length) (h0:(atN t (N.getD k Sy.zero).na).1=0):ee t N (k+1) (L++[(atN t (N.getD k Sy.zero).na).2]):=by
 have e:bx t (N.drop k)=((bx t (N.drop (k+1))).1,(atN t (N.getD k Sy.zero).na).2 :: (bx t (N.drop (k+1))).2):=by
  rw [ic N Sy.zero hk,bx,if_neg (by rw [h0];simp)]
 obtain ⟨h2,h3⟩:=h;rw [e] at h2 h3;exact ⟨h2,fun h=>by rw [h3 h,List.append_assoc];rfl⟩
theorem ee.err {t:List Int} {N:List Sy} {k:Nat} {L:List ByteArray} (h:ee t N k L) (hk:k<N.length) (h0:(atN t (N.getD k Sy.zero).na).1≠0):(bx t N).1=(atN t (N.getD k Sy.zero).na).1:=by
 rw [h.1,ic N Sy.zero hk,bx,if_pos h0]
theorem ee.all {t:List Int} {N:List Sy} {k:Nat} {L:List ByteArray} (h:ee t N k L) (hk:N.length≤k):(bx t N).1=0∧(bx t N).2=L:=by
 obtain ⟨h2,h3⟩:=h;rw [List.drop_eq_nil_of_le hk] at h2 h3;exact ⟨h2,by rw [h3 rfl];simp [bx]⟩
theorem aR {w:World} {base base' n s:Nat} {e:TypeId} {v:Value} {xs:List Value} (h:w.ownsRow base e s v n xs) (hb:base'≤base):w.ownsRow base' e s v n xs:=by
 obtain ⟨hl,⟨hv,e0⟩ | ⟨g,cap,cur,hv,hg,r⟩⟩:=h
 ·exact ⟨hl,.inl ⟨hv,e0⟩⟩
 ·exact ⟨hl,.inr ⟨g,cap,cur,hv,Nat.le_trans hb hg,r⟩⟩
theorem Blk.eleven {w:World} {g:Nat} {t:TypeId} {z0 z1 z2 z3 z4 z5 z6 z7 z8 z9 z10:Value} (h:Blk w g #[z0,z1,z2,z3,z4,z5,z6,z7,z8,z9,z10] t) (v0 v1 v2 v3 v4 v5 v6 v7 v8 v9 v10:Value):Blk ((((((((((((w).setCell ⟨g,0,none⟩ v0).setCell ⟨g,1,none⟩ v1).setCell ⟨g,2,none⟩ v2).setCell ⟨g,3,none⟩ v3).setCell ⟨g,4,none⟩ v4).setCell ⟨g,5,none⟩ v5).setCell ⟨g,6,none⟩ v6).setCell ⟨g,7,none⟩ v7).setCell ⟨g,8,none⟩ v8).setCell ⟨g,9,none⟩ v9).setCell ⟨g,10,none⟩ v10) g #[v0,v1,v2,v3,v4,v5,v6,v7,v8,v9,v10] t:=by
 have h1:Blk ((w).setCell ⟨g,0,none⟩ v0) g #[v0,z1,z2,z3,z4,z5,z6,z7,z8,z9,z10] t:=by have q:=h.set 0 v0;exact q
 have h2:Blk (((w).setCell ⟨g,0,none⟩ v0).setCell ⟨g,1,none⟩ v1) g #[v0,v1,z2,z3,z4,z5,z6,z7,z8,z9,z10] t:=by have q:=h1.set 1 v1;exact q
 have h3:Blk ((((w).setCell ⟨g,0,none⟩ v0).setCell ⟨g,1,none⟩ v1).setCell ⟨g,2,none⟩ v2) g #[v0,v1,v2,z3,z4,z5,z6,z7,z8,z9,z10] t:=by have q:=h2.set 2 v2;exact q
 have h4:Blk (((((w).setCell ⟨g,0,none⟩ v0).setCell ⟨g,1,none⟩ v1).setCell ⟨g,2,none⟩ v2).setCell ⟨g,3,none⟩ v3) g #[v0,v1,v2,v3,z4,z5,z6,z7,z8,z9,z10] t:=by have q:=h3.set 3 v3;exact q
 have h5:Blk ((((((w).setCell ⟨g,0,none⟩ v0).setCell ⟨g,1,none⟩ v1).setCell ⟨g,2,none⟩ v2).setCell ⟨g,3,none⟩ v3).setCell ⟨g,4,none⟩ v4) g #[v0,v1,v2,v3,v4,z5,z6,z7,z8,z9,z10] t:=by have q:=h4.set 4 v4;exact q
 have h6:Blk (((((((w).setCell ⟨g,0,none⟩ v0).setCell ⟨g,1,none⟩ v1).setCell ⟨g,2,none⟩ v2).setCell ⟨g,3,none⟩ v3).setCell ⟨g,4,none⟩ v4).setCell ⟨g,5,none⟩ v5) g #[v0,v1,v2,v3,v4,v5,z6,z7,z8,z9,z10] t:=by have q:=h5.set 5 v5;exact q
 have h7:Blk ((((((((w).setCell ⟨g,0,none⟩ v0).setCell ⟨g,1,none⟩ v1).setCell ⟨g,2,none⟩ v2).setCell ⟨g,3,none⟩ v3).setCell ⟨g,4,none⟩ v4).setCell ⟨g,5,none⟩ v5).setCell ⟨g,6,none⟩ v6) g #[v0,v1,v2,v3,v4,v5,v6,z7,z8,z9,z10] t:=by have q:=h6.set 6 v6;exact q
 have h8:Blk (((((((((w).setCell ⟨g,0,none⟩ v0).setCell ⟨g,1,none⟩ v1).setCell ⟨g,2,none⟩ v2).setCell ⟨g,3,none⟩ v3).setCell ⟨g,4,none⟩ v4).setCell ⟨g,5,none⟩ v5).setCell ⟨g,6,none⟩ v6).setCell ⟨g,7,none⟩ v7) g #[v0,v1,v2,v3,v4,v5,v6,v7,z8,z9,z10] t:=by have q:=h7.set 7 v7;exact q
 have h9:Blk ((((((((((w).setCell ⟨g,0,none⟩ v0).setCell ⟨g,1,none⟩ v1).setCell ⟨g,2,none⟩ v2).setCell ⟨g,3,none⟩ v3).setCell ⟨g,4,none⟩ v4).setCell ⟨g,5,none⟩ v5).setCell ⟨g,6,none⟩ v6).setCell ⟨g,7,none⟩ v7).setCell ⟨g,8,none⟩ v8) g #[v0,v1,v2,v3,v4,v5,v6,v7,v8,z9,z10] t:=by have q:=h8.set 8 v8;exact q
 have h10:Blk (((((((((((w).setCell ⟨g,0,none⟩ v0).setCell ⟨g,1,none⟩ v1).setCell ⟨g,2,none⟩ v2).setCell ⟨g,3,none⟩ v3).setCell ⟨g,4,none⟩ v4).setCell ⟨g,5,none⟩ v5).setCell ⟨g,6,none⟩ v6).setCell ⟨g,7,none⟩ v7).setCell ⟨g,8,none⟩ v8).setCell ⟨g,9,none⟩ v9) g #[v0,v1,v2,v3,v4,v5,v6,v7,v8,v9,z10] t:=by have q:=h9.set 9 v9;exact q
 have h11:Blk ((((((((((((w).setCell ⟨g,0,none⟩ v0).setCell ⟨g,1,none⟩ v1).setCell ⟨g,2,none⟩ v2).setCell ⟨g,3,none⟩ v3).setCell ⟨g,4,none⟩ v4).setCell ⟨g,5,none⟩ v5).setCell ⟨g,6,none⟩ v6).setCell ⟨g,7,none⟩ v7).setCell ⟨g,8,none⟩ v8).setCell ⟨g,9,none⟩ v9).setCell ⟨g,10,none⟩ v10) g #[v0,v1,v2,v3,v4,v5,v6,v7,v8,v9,v10] t:=by have q:=h10.set 10 v10;exact q
 exact h11
theorem sD {V:List Int} (h:∀n∈V,0≤n∧n≤18446744073709551615) (i:Nat):0≤V.getD i 0∧V.getD i 0≤18446744073709551615:=by
 rw [gZe];by_cases hi:i<V.length
 ·rw [gZg hi];exact h _ (List.getElem_mem hi)
 ·rw [List.getElem?_eq_none (by omega)];simp
theorem ag {P:Program} {w:World} {ops:Array Oper} {rest:List Oper} {o:Oper} {a:Act} {Q:Exit→Act→World→Prop} (hgd:o.guard=none) (s x:Operand) (t:TypeId)
 (ho:o.op=.call { callee:=.builtin .append,args:=#[s,x],argTypes:=#[t,t] })
 (base:Nat) (e:TypeId) (i:TypeInfo) (z:Value) (bytes:Nat) (ht:P.underlying t=some (.slice e)) (hi:P.info? e=some i) (hz:i.zero=some z)
 (hsize:i.size=1) (hby:i.bytes=bytes) (hzs:z.cells.size=1)
 (v:Value) (n:Nat) (xs:List Value) (hs:a.eval s=v) (hown:w.ownsRow base e 1 v n xs)
 (ad:Option Addr) (m c:Nat) (B:Nat) (L:List Int) (hx:a.eval x=.slice ad m c) (hst:Bys w B ad m L) (hc:ad=none→c=0)
 (h63:n+m≤maxLen) (hbytes:(n+m)*bytes≤140737488355328) (hbase:base≤w.heap.size)
 (h:∀v' w',w'.ownsRow base e 1 v' (n+m) (xs++L.map (Value.int .u8))→w.grownBy w' v.ownBlock→wpList P ops Q rest (a.put o.dst v') w'):wpList P ops Q (o :: rest) a w:=by
 cases ad with
 | none=>
   have hm:m=0:=by
    rcases Nat.eq_zero_or_pos m with h0 | h0
    ·exact h0
    ·obtain ⟨b,off,e,_⟩:=hst.2.2 h0;cases e
   subst hm;have hL:L=[]:=List.eq_nil_of_length_eq_zero hst.1;subst hL;obtain rfl:=hc rfl;refine wpList_append_own_none hgd s x t ho base e i 1 ht hi v n xs hs hown hx (h v w ?_ ⟨rfl,rfl,rfl,lZr _,fun _ _ _=>rfl⟩);simpa using hown
 | some ad=>
   refine wpList_append_own w hgd s x t ho base e i z 1 bytes ht hi hz hsize hby hzs dZc v n xs hs hown ad m c (L.map (Value.int .u8)) hx (by rw [List.length_map,hst.1];omega) ?_ (jy L) h63 hbytes hbase (fun v' w' h1 h2 _=>h v' w' h1 h2);intro j u hj;have hjm:j<m:=by
    have:=(List.getElem?_eq_some_iff.1 hj).1;rw [List.length_map,hst.1] at this;exact this
   obtain ⟨b,off,e,_,hcell⟩:=hst.2.2 oZm;injection e with e;subst e;exact Bys.src hst.1 hcell j u hj
theorem gc (base:Nat) (v:Value) (m:Nat) (zs:List Int) (x:Int) (n:Nat) (w:World) (ho:w.ownsRow base 5 1 v m (zs.map (Value.int .u8))) (hbase:base≤w.heap.size) (hm:m+n≤1000000) (x0:0≤x) (x1:x≤18446744073709551615) :
 Calls Tryz.prog 84 #[v,.int .u64 x,.int .i64 n] w fun r w'=>∃v',r=.returned v'∧w'.ownsRow base 5 1 v' (m+n) ((zs++ai x n).map (Value.int .u8))∧Below base w w':=by
 obtain ⟨i0,hi,hz0,hz1,hz2⟩:=info_parts aM;have HO:=hZz ho;have HI:=hZz hi;have HZ0:=hZz hz0;have HZ1:=hZz hz1;have HZ2:=hZz hz2;have hni:(n:Int)≤1000000:=by omega
 clear ho hi hz0 hz1 hz2;go_enter Tryz.func84,Tryz.ntmps84
 go_wp2;go_loopw [0,1,7] (fun v' y i wr=>∃k:Nat,k≤n∧i=.int .i64 k∧y=.int .u64 (x / 256 ^ k)∧wr.ownsRow base 5 1 v' (m+k) ((zs++ai x k).map (Value.int .u8))∧Below base w wr) (fun _ _ i _=>n-(intOf i).toNat)
 case atStart=>exact ⟨0,Nat.zero_le _,rfl,by simp,by simpa [ai] using HO.out,Below.refl _ _⟩
 case round=>
  obtain ⟨k,hk,rfl,rfl,hown,hbel⟩:=hrel;by_cases hlt:k<n
  ·have hdv:=hZz (fZ x k);have hdg:Hid (ai x (k+1)=ai x k++[x / 256 ^ k % 256]):=hZz rfl;have hy0:0≤x / 256 ^ k:=Int.ediv_nonneg x0 (Int.pow_nonneg dZc);have hy1:x / 256 ^ k≤18446744073709551615:=Int.le_trans (Int.ediv_le_self _ x0) x1;generalize x / 256 ^ k=y at hdv hdg hy0 hy1⊢;have hsz:=hbel.size;have HOWN:=hZz hown;clear hown;go_wp2_with (at_builtin;refine wpList_append_own _ rfl _ _ 22 rfl base 5 i0 (.int .u8 0) 1 1 Tryz.underlying22 HI.out HZ0.out HZ1.out HZ2.out rfl dZc _ (m+k) _ rfl (HOWN.out.alloc _) ⟨wr.heap.size,0,none⟩ 1 1 [.int .u8 (y % 256)] rfl rfl ?c1 ?c2 ?c3 ?c4 ?c5 ?_);case c1=>exact cell_one_new _ _ _
   case c2=>intro u hu;obtain rfl:=List.mem_singleton.1 hu;rfl
   case c3=>unfold maxLen;omega
   case c4=>omega
   case c5=>simp;omega
   intro v2 w2 hown2 hg2 hnil2;have hb2:Below base w w2:=(hbel.alloc oZm _).grown hg2 (by simp;omega) (fun q e=>(HOWN.out.lt q e).1);have HO2:Hid (w2.ownsRow base 5 1 v2 (m+(k+1)) ((zs++ai x (k+1)).map (Value.int .u8))):=hZz (by
    rw [hdg.out];simpa only [List.map_append,List.append_assoc,List.map_cons,List.map_nil,Nat.add_assoc] using hown2)
   clear hown2 hg2 hnil2 hbel;go_wp2;go_roundw
   case rel=>exact ⟨k+1,by omega,by go_num,by rw [hdv.out],HO2.out,hb2⟩
   case measure=>simp [intOf];omega
  ·obtain rfl:k=n:=by omega
   have HOW:=hZz hown;clear hown;go_wp2;go_ret;exact ⟨_,rfl,HOW.out,hbel⟩
theorem jg (w:World) (L:List Value) (t:TypeId) (g:Nat) (hg:g=w.heap.size):∀(j:Nat) (u:Value),L[j]?=some u→(w.alloc (.cells L.toArray t)).cell? ((⟨g,0,none⟩:Addr).add j)=some u:=by
 intro j u hj;subst hg;rw [cD,Nat.zero_add,(Blk.new w _ _).cell];simpa using hj
theorem eG (s:Sy) (w:World) (h:s.Ok) :
 Calls Tryz.prog 41 #[s.val] w fun r w'=>(∃u,r=.returned u∧w'.ownsRow w.heap.size 5 1 u 24 ((bq s).map (Value.int .u8)))∧Below w.heap.size w w':=by
 obtain ⟨i0,hi,hz0,hz1,hz2⟩:=info_parts aM;have HI:=hZz hi;have HZ0:=hZz hz0;have HZ1:=hZz hz1;have HZ2:=hZz hz2;obtain ⟨⟨a0,a1⟩,⟨b0,b1⟩,⟨c0,c1⟩,⟨d0,d1⟩,⟨e0,e1⟩,⟨f0,f1⟩⟩:=h;obtain ⟨na,inf,ot,se,va,si⟩:=s;simp only at a0 a1 b0 b1 c0 c1 d0 d1 e0 e1 f0 f1;obtain ⟨zs,hzs⟩:∃zs,bq ⟨na,inf,ot,se,va,si⟩=zs:=⟨_,rfl⟩
 rw [hzs];have HE:Hid (ai na 4++[inf,ot]++ai se 2++ai va 8++ai si 8=zs):=hZz (by rw [←hzs];simp [bq]);unfold Sy.val;simp only
 have HQ:Hid (∀w',Below (w.heap.size+1) (w.alloc (.cells #[.int .u32 na,.int .u8 inf,.int .u8 ot,.int .u16 se,.int .u64 va,.int .u64 si] 76)) w'→Blk w' w.heap.size #[.int .u32 na,.int .u8 inf,.int .u8 ot,.int .u16 se,.int .u64 va,.int .u64 si] 76∧w.heap.size+1≤w'.heap.size):=hZz (fun w' hb=>
  ⟨(Blk.new w _ _).below hb (Nat.lt_succ_self _),by have:=hb.size;simp at this;omega⟩)
 have HB0:Hid (Below (w.heap.size+1) (w.alloc (.cells #[.int .u32 na,.int .u8 inf,.int .u8 ot,.int .u16 se,.int .u64 va,.int .u64 si] 76)) (w.alloc (.cells #[.int .u32 na,.int .u8 inf,.int .u8 ot,.int .u16 se,.int .u64 va,.int .u64 si] 76))):=hZz (Below.refl _ _);have HBW:Hid (Below w.heap.size w (w.alloc (.cells #[.int .u32 na,.int .u8 inf,.int .u8 ot,.int .u16 se,.int .u64 va,.int .u64 si] 76))):=hZz ((Below.refl _ _).alloc (lZr _) _);have HO0:Hid ((w.alloc (.cells #[.int .u32 na,.int .u8 inf,.int .u8 ot,.int .u16 se,.int .u64 va,.int .u64 si] 76)).ownsRow (w.heap.size+1) 5 1 (.slice none 0 0) 0 (([]:List Int).map (Value.int .u8))):=hZz (World.ownsRow_nil _ _ _ _);clear hi hz0 hz1 hz2 hzs;go_enter Tryz.func41,Tryz.ntmps41
 go_wp2_with fail;refine (gc (w.heap.size+1) _ 0 [] na 4 _ HO0.out (HQ.out _ HB0.out).2 dZc oZm oZm).mono ?_;rintro r w1 ⟨v1,rfl,ho,hb⟩;have HO1:Hid (w1.ownsRow (w.heap.size+1) 5 1 v1 4 ((ai na 4).map (Value.int .u8))):=hZz (by simpa using ho);have HB1:=hZz (HB0.out.trans hb);obtain ⟨q0,q1,q2,q3,q4,q5⟩:=Sy.cs (HQ.out _ HB1.out).1;clear ho hb;go_wp2_with (at_builtin;refine wpList_append_own _ rfl _ _ 22 rfl (w.heap.size+1) 5 i0 (.int .u8 0) 1 1 Tryz.underlying22 HI.out HZ0.out HZ1.out HZ2.out rfl dZc _ 4 _ rfl (HO1.out.alloc _) ⟨w1.heap.size,0,none⟩ 2 2 [.int .u8 inf,.int .u8 ot] rfl rfl ?c1 ?c2 ?c3 ?c4 ?c5 ?_);case c1=>exact jg w1 [.int .u8 inf,.int .u8 ot] _ _ rfl
 case c2=>intro u hu;simp only [List.mem_cons,List.not_mem_nil,or_false] at hu;rcases hu with rfl | rfl<;>rfl
 case c3=>unfold maxLen;omega
 case c4=>omega
 case c5=>have:=HB1.out.size;simp at this⊢;omega
 intro v2 w2 ho2 hg2 hn2;have HO2:Hid (w2.ownsRow (w.heap.size+1) 5 1 v2 6 ((ai na 4++[inf,ot]).map (Value.int .u8))):=hZz (by
  simpa only [List.map_append,List.map_cons,List.map_nil] using ho2)
 have HB2:Hid (Below (w.heap.size+1) (w.alloc (.cells #[.int .u32 na,.int .u8 inf,.int .u8 ot,.int .u16 se,.int .u64 va,.int .u64 si] 76)) w2):=hZz (by
  have hs:=HB1.out.size;simp only [World.size_alloc] at hs;exact (HB1.out.alloc hs _).grown hg2 (by simp;omega) (fun q e=>(HO1.out.lt q e).1))
 obtain ⟨r0,r1,r2,r3,r4,r5⟩:=Sy.cs (HQ.out _ HB2.out).1;clear ho2 hg2 hn2 q0 q1 q2 q3 q4 q5;go_wp2_with fail;refine (gc (w.heap.size+1) _ 6 (ai na 4++[inf,ot]) se 2 _ HO2.out (HQ.out _ HB2.out).2 dZc oZm oZm).mono ?_;rintro r w3 ⟨v3,rfl,ho,hb⟩;have HO3:=hZz ho;have HB3:=hZz (HB2.out.trans hb);obtain ⟨q0,q1,q2,q3,q4,q5⟩:=Sy.cs (HQ.out _ HB3.out).1;clear ho hb r0 r1 r2 r3 r4 r5;go_wp2_with fail;refine (gc (w.heap.size+1) _ 8 (ai na 4++[inf,ot]++ai se 2) va 8 _ HO3.out (HQ.out _ HB3.out).2 dZc oZm oZm).mono ?_;rintro r w4 ⟨v4,rfl,ho,hb⟩;have HO4:=hZz ho;have HB4:=hZz (HB3.out.trans hb);obtain ⟨r0,r1,r2,r3,r4,r5⟩:=Sy.cs (HQ.out _ HB4.out).1;clear ho hb q0 q1 q2 q3 q4 q5;go_wp2_with fail;refine (gc (w.heap.size+1) _ 16 (ai na 4++[inf,ot]++ai se 2++ai va 8) si 8 _ HO4.out (HQ.out _ HB4.out).2 dZc oZm oZm).mono ?_;rintro r w5 ⟨v5,rfl,ho,hb⟩;rw [HE.out] at ho;have HO5:=hZz (bL ho (Nat.le_succ w.heap.size));have HB5:=hZz (HBW.out.trans ((HB4.out.trans hb).mono (Nat.le_succ _)));clear ho hb;go_wp2;go_ret;exact ⟨⟨_,rfl,HO5.out⟩,HB5.out⟩
def fV (l:List Oper) (dsts:List Nat) (n:Nat):Bool:=
 decide (l.length=dsts.length) && decide dsts.Nodup &&
 ((List.range l.length).all fun i=>match l[i]?,dsts[i]? with
   | some o,some t=>o.guard.isNone && ((decide (o.dst=some t) && decide (t<n)) || (o.dst.isNone && decide (n≤t)))
   | _,_=>false) &&
 (List.range l.length).all fun i=>match l[i]? with
  | some o=>o.after.toList.all fun e=>!Region.binds .any e || decide (e.on<i)
  | none=>true
def upd (L:Nat→Bool) (i:Nat):Nat→Bool:=fun j=>if j=i then true else L j
theorem cZ (L:Nat→Bool) (i:Nat):upd L i i=true:=by simp [upd]
theorem aE (L:Nat→Bool) {i j:Nat} (h:j≠i):upd L i j=L j:=by simp [upd,h]
theorem fJ (v:Nat→Value):∀(ts:List Nat) (i:Nat) (x:List Value),ts.Nodup→
 (aO v i ts x).length=x.length∧(∀j t,ts[j]?=some t→t<x.length→(aO v i ts x)[t]?=some (v (i+j)))∧∀t,t ∉ ts→(aO v i ts x)[t]?=x[t]?
 | [],i,x,_=>⟨rfl,fun j t h=>by simp at h,fun t _=>rfl⟩
 | s :: ts,i,x,hn=>by
   have hn':=List.nodup_cons.1 hn;obtain ⟨h1,h2,h3⟩:=fJ v ts (i+1) (x.set s (v i)) hn'.2;refine ⟨by rw [aO,h1,List.length_set],fun j t hj ht=>?_,fun t ht=>?_⟩
   ·cases j with
    | zero=>
      simp only [List.getElem?_cons_zero,Option.some.injEq] at hj;subst hj;rw [aO,h3 s hn'.1,List.getElem?_set_self ht,Nat.add_zero]
    | succ j=>
      rw [List.getElem?_cons_succ] at hj;rw [aO,h2 j t hj (by rw [List.length_set];exact ht),show i+1+j=i+(j+1) from by omega]
   ·rw [aO,h3 t (fun h=>ht (by simp [h])),List.getElem?_set_ne (fun e=>ht (by simp [e]))]
def gM (P:Program) (J:(Nat→Bool)→World→Prop) (n:Nat) (x:List Value) (d:List Deferred) (dsts:List Nat) (vs:List Value):Nat→List Oper→Prop
 | _,[]=>True
 | i,o :: l=>(∀(L:Nat→Bool) (y:Nat→Value) (w:World),J L w→L i=false→(∀t,t ∉ dsts→y t=x.getD t undef)→(∀j,j∈cG o→L j=true∧(dsts.getD j 0<n→y (dsts.getD j 0)=vs.getD j undef))→
  cf P o ⟨af n y,d⟩ w fun u w'=>(dsts.getD i 0<n→u=vs.getD i undef)∧J (upd L i) w')∧gM P J n x d dsts vs (i+1) l
theorem gM.get {P:Program} {J:(Nat→Bool)→World→Prop} {n:Nat} {x:List Value} {d:List Deferred} {dsts:List Nat} {vs:List Value} :
 ∀{l:List Oper} {k:Nat},gM P J n x d dsts vs k l→∀i o,l[i]?=some o→
  ∀(L:Nat→Bool) (y:Nat→Value) (w:World),J L w→L (k+i)=false→(∀t,t ∉ dsts→y t=x.getD t undef)→(∀j,j∈cG o→L j=true∧(dsts.getD j 0<n→y (dsts.getD j 0)=vs.getD j undef))→
   cf P o ⟨af n y,d⟩ w fun u w'=>(dsts.getD (k+i) 0<n→u=vs.getD (k+i) undef)∧J (upd L (k+i)) w'
 | [],_,_,_,_,h=>by simp at h
 | o :: l,k,hs,0,o',h=>by
   simp only [List.getElem?_cons_zero,Option.some.injEq] at h;subst h;exact hs.1
 | o :: l,k,hs,i+1,o',h=>by
   rw [List.getElem?_cons_succ] at h;have:=hs.2.get i o' h
   rwa [show k+1+i=k+(i+1) from by omega] at this
section
variable {P:Program} {Q:Exit→Act→World→Prop}
theorem ru {l:List Oper} {x:List Value} {d:List Deferred} (dsts:List Nat) (vs:List Value) (J:(Nat→Bool)→World→Prop)
 (hJ:∀L L' w,(∀i,i<l.length→L i=L' i)→J L w→J L' w)
 (hok:fV l dsts x.length=true) (hsteps:gM P J x.length x d dsts vs 0 l)
 (hend:∀(L:Nat→Bool) (w:World),J L w→(∀i,i<l.length→L i=true)→Q .normal ⟨(aO (fun i=>vs.getD i undef) 0 dsts x).toArray,d⟩ w) :
 ∀(fuel:Nat) (listed:Array Bool) (y:Nat→Value) (w:World),left listed≤fuel→listed.size=l.length→(∀t,t ∉ dsts→y t=x.getD t undef)→
  (∀i,listed[i]?=some true→dsts.getD i 0<x.length→y (dsts.getD i 0)=vs.getD i undef)→J (fun i=>listed.getD i false) w→wpAny P .any l.toArray Q fuel listed ⟨af x.length y,d⟩ w:=by
 simp only [fV,Bool.and_eq_true,decide_eq_true_eq,List.all_eq_true,List.mem_range] at hok;obtain ⟨⟨⟨hdl,hnd⟩,hfm⟩,hord⟩:=hok;have fin:∀(listed:Array Bool) (y:Nat→Value) (w:World),listed.size=l.length→(∀t,t ∉ dsts→y t=x.getD t undef)→
  (∀i,listed[i]?=some true→dsts.getD i 0<x.length→y (dsts.getD i 0)=vs.getD i undef)→J (fun i=>listed.getD i false) w→(∀i,i<l.length→listed[i]?=some true)→Q .normal ⟨af x.length y,d⟩ w:=by
  intro listed y w hsz hy hF hb hall;have h:=hend _ w hb (fun i hi=>by rw [Array.getD_eq_getD_getElem?,hall i hi];rfl);have e:(aO (fun i=>vs.getD i undef) 0 dsts x).toArray=af x.length y:=by
   obtain ⟨h1,h2,h3⟩:=fJ (fun i=>vs.getD i undef) dsts 0 x hnd;apply Array.ext_getElem?
   intro t;rw [List.getElem?_toArray];by_cases ht:t<x.length
   ·rw [aS _ _ _ ht];by_cases hm:t∈dsts
    ·obtain ⟨j,hj,hjt⟩:=List.getElem_of_mem hm;have hj':dsts[j]?=some t:=by rw [gZg hj,hjt]
     have hjd:dsts.getD j 0=t:=by rw [gZe,hj'];rfl
     rw [h2 j t hj' ht,Nat.zero_add];have:=hF j (hall j oZm) (by rw [hjd];exact ht);rw [hjd] at this;rw [this]
    ·rw [h3 t hm,hy t hm,gZe,gZg ht];rfl
   ·rw [List.getElem?_eq_none oZm,Array.getElem?_eq_none (by rw [aQ];omega)]
  rw [e] at h;exact h
 intro fuel;induction fuel with
 | zero=>
   intro listed y w hf hsz hy hF hb;have hall:∀i,i<l.length→listed[i]?=some true:=fun i hi=>by
    have:=eX listed.toList (by unfold left at hf;omega) i (by rw [Array.length_toList,hsz];exact hi);simpa using this
   refine ⟨?_,fin listed y w hsz hy hF hb hall⟩;apply List.eq_nil_iff_forall_not_mem.2
   intro j hj;obtain ⟨h0,o,ho,_⟩:=mem_ready.1 hj;have hjl:j<l.length:=by
    have:=(Array.getElem?_eq_some_iff.1 ho).1;simpa using this
   rw [Array.getD_eq_getD_getElem?,hall j hjl] at h0;cases h0
 | succ fuel ih=>
   intro listed y w hf hsz hy hF hb;refine ⟨fun hr=>?_,fun i hi=>?_⟩
   ·refine fin listed y w hsz hy hF hb ?_;intro i;induction i using Nat.strongRecOn with
    | ind i ihi=>
      intro hi;cases hli:listed[i]? with
      | none=>rw [Array.getElem?_eq_none_iff] at hli;omega
      | some b=>
        cases b with
        | true=>rfl
        | false=>
          exfalso
          have:i∈Region.ready .any l.toArray listed:=by
           refine mem_ready.2 ⟨by rw [Array.getD_eq_getD_getElem?,hli];rfl,l[i],by rw [List.getElem?_toArray,gZg hi],fun e he hbe=>?_⟩;have h1:=hord i hi;rw [gZg hi] at h1;have h2:=List.all_eq_true.1 h1 e (by simpa using he);rw [hbe] at h2;have h3:e.on<i:=by simpa using h2
           rw [Array.getD_eq_getD_getElem?,ihi e.on h3 (by omega)];rfl
          rw [hr] at this;cases this
   ·obtain ⟨h0,o,ho,hall⟩:=mem_ready.1 hi;have ho':l[i]?=some o:=by simpa using ho
    have hil:i<l.length:=(List.getElem?_eq_some_iff.1 ho').1;have hli:listed[i]?=some false:=by
     cases hli:listed[i]? with
     | none=>rw [Array.getElem?_eq_none_iff] at hli;omega
     | some b=>rw [Array.getD_eq_getD_getElem?,hli] at h0;rw [show b=false from h0]
    have hst:=hsteps.get i o ho' (fun i=>listed.getD i false) y w hb (by rw [Nat.zero_add];show listed.getD i false=false;rw [Array.getD_eq_getD_getElem?,hli];rfl) hy (fun j hj=>by
     unfold cG at hj;obtain ⟨e,he,rfl⟩:=List.mem_map.1 hj;obtain ⟨he1,he2⟩:=List.mem_filter.1 he;have hl:=hall e (by simpa using he1) he2;refine ⟨hl,hF e.on ?_⟩;cases hle:listed[e.on]? with
     | none=>rw [Array.getD_eq_getD_getElem?,hle] at hl;cases hl
     | some b=>rw [Array.getD_eq_getD_getElem?,hle] at hl;rw [show b=true from hl])
    rw [Nat.zero_add] at hst;obtain ⟨t,ht⟩:∃t,dsts[i]?=some t:=⟨dsts[i]'(by omega),gZg oZm⟩
    have htd:dsts.getD i 0=t:=by rw [gZe,ht];rfl
    have hfi:=hfm i hil;rw [ho',ht] at hfi;simp only [Bool.and_eq_true,Bool.or_eq_true,decide_eq_true_eq] at hfi;obtain ⟨hgd,hfi⟩:=hfi;have after:∀u w',((dsts.getD i 0<x.length→u=vs.getD i undef)∧J (upd (fun i=>listed.getD i false) i) w')→wpAny P .any l.toArray Q fuel (listed.setIfInBounds i true) (Act.put ⟨af x.length y,d⟩ o.dst u) w':=by
     rintro u w' ⟨hu,hJw⟩;rw [htd] at hu;have ea:(Act.put ⟨af x.length y,d⟩ o.dst u)=⟨af x.length (fun s=>if s=t then u else y s),d⟩:=by
      rcases hfi with ⟨h1,h2⟩ | ⟨h1,h2⟩
      ·rw [h1];simp only [Act.put,eD]
      ·have:o.dst=none:=by simpa using h1
       rw [this];simp only [Act.put]
       congr 1
       apply Array.ext_getElem?
       intro s;by_cases hs:s<x.length
       ·rw [aS _ _ _ hs,aS _ _ _ hs,if_neg (by omega)]
       ·rw [Array.getElem?_eq_none (by rw [aQ];omega),Array.getElem?_eq_none (by rw [aQ];omega)]
     rw [ea];have hlf:=fW listed.toList i (by simpa using hli);refine ih _ _ _ ?_ (by rw [Array.size_setIfInBounds,hsz]) ?_ ?_ (hJ _ _ _ ?_ hJw)
     ·unfold left at hf⊢;rw [Array.toList_setIfInBounds];omega
     ·intro s hs;have hst:s≠t:=fun e=>hs (e▸List.mem_of_getElem? ht);simp only [hst,if_false];exact hy s hs
     ·intro j hj hjt;by_cases hji:j=i
      ·subst hji;rw [htd] at hjt⊢;simpa using hu hjt
      ·rw [Array.getElem?_setIfInBounds_ne (Ne.symm hji)] at hj;have hjl:j<dsts.length:=by
        have:=(Array.getElem?_eq_some_iff.1 hj).1;omega
       have hne:dsts.getD j 0≠t:=by
        rw [gZe,gZg hjl];intro e;have hit:dsts[i]'(by omega)=t:=(List.getElem?_eq_some_iff.1 ht).2;have:=dK hnd j i hjl oZm (show dsts[j]=dsts[i]'(by omega) from by rw [hit];simpa using e);exact hji this
       simp only [hne,if_false];exact hF j hj hjt
     ·intro j hj;by_cases hji:j=i
      ·subst hji;rw [cZ,Array.getD_eq_getD_getElem?,Array.getElem?_setIfInBounds_self_of_lt (by omega)];rfl
      ·rw [aE _ hji,Array.getD_eq_getD_getElem?,Array.getD_eq_getD_getElem?,Array.getElem?_setIfInBounds_ne (Ne.symm hji)]
    unfold wpOp;rw [ho];simp only
    have hw:Region.wanted o (yielded l.toArray (af x.length y))=true:=by
     have:o.guard=none:=by simpa using hgd
     unfold Region.wanted;rw [this]
    rw [if_pos hw];exact .inl (hst _ _ after)
theorem lH {id:Nat} {l:List Oper} {x:List Value} {d:List Deferred} {w:World} (hm:P.follows .mixedOrders=true) (n:Nat) (hn:x.length=n) (dsts:List Nat) (vs:List Value) (J:(Nat→Bool)→World→Prop)
 (hJ:∀L L' w,(∀i,i<l.length→L i=L' i)→J L w→J L' w)
 (hok:fV l dsts n=true) (hst:J (fun _=>false) w.drew) (hsteps:gM P J n x d dsts vs 0 l)
 (hend:∀(L:Nat→Bool) (w':World),J L w'→(∀i,i<l.length→L i=true)→Q .normal ⟨(aO (fun i=>vs.getD i undef) 0 dsts x).toArray,d⟩ w') :
 (Code.region id l.toArray true).wp P Q ⟨x.toArray,d⟩ w:=by
 subst hn;refine wp_region_any hm ?_;change wpAny P .any l.toArray Q _ _ _ w.drew;rw [ap x];have hl:∀n,((List.replicate n false).filter (!·)).length=n:=fun n=>by induction n with
  | zero=>rfl
  | succ n ih=>rw [List.replicate_succ];simp
 refine ru dsts vs J hJ hok hsteps hend _ _ _ _ ?_ (by simp) (fun t ht=>rfl) ?_ (hJ _ _ _ ?_ hst)
 ·unfold left;rw [Array.toList_replicate,hl];exact lZr _
 ·intro i hi;rw [Array.getElem?_replicate] at hi;split at hi<;>cases hi
 ·intro i hi;rw [Array.getD_eq_getD_getElem?,Array.getElem?_replicate];split<;>rfl
end
theorem dj {P:Program} {o:Oper} {a:Act} {w:World} {post:Value→World→Prop} (x:Operand) (ho:o.op=.move x∨o.op=.assign x) (h:post (a.eval x) w):cf P o a w post:=by
 intro K Q hK;have:=hK _ _ h;unfold Oper.wp Oper.upon;rcases ho with ho | ho<;>simpa [execOp,ho,Result.andThen] using this
section
variable {P:Program} {Q:Exit→Act→World→Prop}
end
theorem ax (n:Nat) (y:Nat→Value) (d:List Deferred) {t:Nat} (h:t<n):(⟨af n y,d⟩:Act).eval (.tmp t)=y t:=by
 simp [Act.eval,aS _ _ _ h]
theorem evA1 {n:Nat} {y:Nat→Value} {a:Nat} {u:Value} (e:y a=u) (h:a<n):∃A:Act,⟨af n y,[]⟩=A∧A.tmps.getD a undef=u:=⟨_,rfl,(ax n y [] h).trans e⟩
theorem evA2 {n:Nat} {y:Nat→Value} {a b:Nat} {u v:Value} (e:y a=u) (f:y b=v) (h:a<n) (g:b<n):∃A:Act,⟨af n y,[]⟩=A∧A.tmps.getD a undef=u∧A.tmps.getD b undef=v:=⟨_,rfl,(ax n y [] h).trans e,(ax n y [] g).trans f⟩
theorem evA3 {n:Nat} {y:Nat→Value} {a b c:Nat} {u v x:Value} (e:y a=u) (f:y b=v) (k:y c=x) (h:a<n) (g:b<n) (i:c<n):∃A:Act,⟨af n y,[]⟩=A∧A.tmps.getD a undef=u∧A.tmps.getD b undef=v∧A.tmps.getD c undef=x:=⟨_,rfl,(ax n y [] h).trans e,(ax n y [] g).trans f,(ax n y [] i).trans k⟩
theorem nE:(Tryz.prog.info? 76).map (fun i=>(i.zero,i.size,i.bytes))=some (some (.agg #[.int .u32 0,.int .u8 0,.int .u8 0,.int .u16 0,.int .u64 0,.int .u64 0]),6,24):=by kernel_rfl
theorem mL (s:Sy):∀u∈[Value.int .u32 s.na,.int .u8 s.inf,.int .u8 s.ot,.int .u16 s.se,.int .u64 s.va,.int .u64 s.si],u.oneCell'=true:=by
 intro u hu;simp only [List.mem_cons,List.not_mem_nil,or_false] at hu;rcases hu with rfl | rfl | rfl | rfl | rfl | rfl<;>rfl
theorem iI {a b:Int} (h:a=b):Ending.returned (.int .i64 a)=.returned (.int .i64 b):=by rw [h]
theorem kK {a b:Int} (h:a=b):Ending.returned (.int .i64 a)=.returned (.int .i64 b):=by rw [h]
theorem jk (base:Nat) (v:Value) (m:Nat) (zs:List Int) (x:Int) (w:World) (ho:w.ownsRow base 5 1 v m (zs.map (Value.int .u8))) (hbase:base≤w.heap.size) (hm:m≤1000000) (x0:0≤x) (x1:x≤18446744073709551615) :
 Calls Tryz.prog 85 #[v,.int .u64 x] w fun r w'=>∃v',r=.returned v'∧w'.ownsRow base 5 1 v' (m+8) ((zs++ai x 8).map (Value.int .u8))∧Below base w w':=by
 obtain ⟨i0,hi,hz0,hz1,hz2⟩:=info_parts aM;have HO:=hZz ho;have HI:=hZz hi;have HZ0:=hZz hz0;have HZ1:=hZz hz1;have HZ2:=hZz hz2;clear ho hi hz0 hz1 hz2;go_enter Tryz.func85,Tryz.ntmps85
 go_wp2;go_loopw [0,1,5] (fun v' y i wr=>∃k:Nat,k≤8∧i=.int .i64 k∧y=.int .u64 (x / 256 ^ k)∧wr.ownsRow base 5 1 v' (m+k) ((zs++ai x k).map (Value.int .u8))∧Below base w wr) (fun _ _ i _=>8-(intOf i).toNat)
 case atStart=>exact ⟨0,Nat.zero_le _,rfl,by simp,by simpa [ai] using HO.out,Below.refl _ _⟩
 case round=>
  obtain ⟨k,hk,rfl,rfl,hown,hbel⟩:=hrel;by_cases hlt:k<8
  ·have hdv:=hZz (fZ x k);have hdg:Hid (ai x (k+1)=ai x k++[x / 256 ^ k % 256]):=hZz rfl;have hy0:0≤x / 256 ^ k:=Int.ediv_nonneg x0 (Int.pow_nonneg dZc);have hy1:x / 256 ^ k≤18446744073709551615:=Int.le_trans (Int.ediv_le_self _ x0) x1;have hki:(k:Int)<8:=by omega
   generalize x / 256 ^ k=y at hdv hdg hy0 hy1⊢;have hsz:=hbel.size;have HOWN:=hZz hown;clear hown;go_wp2_with (at_builtin;refine wpList_append_own _ rfl _ _ 22 rfl base 5 i0 (.int .u8 0) 1 1 Tryz.underlying22 HI.out HZ0.out HZ1.out HZ2.out rfl dZc _ (m+k) _ rfl (HOWN.out.alloc _) ⟨wr.heap.size,0,none⟩ 1 1 [.int .u8 (y % 256)] rfl rfl ?c1 ?c2 ?c3 ?c4 ?c5 ?_);case c1=>exact cell_one_new _ _ _
   case c2=>intro u hu;obtain rfl:=List.mem_singleton.1 hu;rfl
   case c3=>unfold maxLen;omega
   case c4=>omega
   case c5=>simp;omega
   intro v2 w2 hown2 hg2 hnil2;have hb2:Below base w w2:=(hbel.alloc oZm _).grown hg2 (by simp;omega) (fun q e=>(HOWN.out.lt q e).1);have HO2:Hid (w2.ownsRow base 5 1 v2 (m+(k+1)) ((zs++ai x (k+1)).map (Value.int .u8))):=hZz (by
    rw [hdg.out];simpa only [List.map_append,List.append_assoc,List.map_cons,List.map_nil,Nat.add_assoc] using hown2)
   clear hown2 hg2 hnil2 hbel;go_wp2;go_roundw
   case rel=>exact ⟨k+1,by omega,by go_num,by rw [hdv.out],HO2.out,hb2⟩
   case measure=>(simp [intOf]<;>omega)
  ·obtain rfl:k=8:=by omega
   rw [show ((8:Nat):Int)=8 from rfl];have HOW:=hZz hown;clear hown;generalize x / 256 ^ 8=q8;go_wp2;go_ret;exact ⟨_,rfl,HOW.out,hbel⟩
theorem jb (s:Rl) (w:World) (h:s.Ok) :
 Calls Tryz.prog 42 #[s.val] w fun r w'=>(∃u,r=.returned u∧w'.ownsRow w.heap.size 5 1 u 24 ((bP s).map (Value.int .u8)))∧Below w.heap.size w w':=by
 obtain ⟨⟨a0,a1⟩,⟨b0,b1⟩,⟨c0,c1⟩,⟨d0,d1⟩⟩:=h;obtain ⟨of,ty,sy,ad⟩:=s;simp only at a0 a1 b0 b1 c0 c1 d0 d1;obtain ⟨zs,hzs⟩:∃zs,bP ⟨of,ty,sy,ad⟩=zs:=⟨_,rfl⟩
 rw [hzs];have u0:0≤IntKind.u64.wrap ad:=by rw [IntKind.wrap_u64];omega
 have u1:IntKind.u64.wrap ad≤18446744073709551615:=by rw [IntKind.wrap_u64];omega
 have HE:Hid (ai of 8++ai (ty+sy*4294967296) 8++ai (IntKind.u64.wrap ad) 8=zs):=hZz (by rw [←hzs];simp [bP,gB]);have hw1:IntKind.u64.wrap (sy*4294967296)=sy*4294967296:=by rw [IntKind.wrap_u64];omega
 have hw2:IntKind.u64.wrap (ty+sy*4294967296)=ty+sy*4294967296:=by rw [IntKind.wrap_u64];omega
 obtain ⟨ua,hua⟩:∃ua,IntKind.u64.wrap ad=ua:=⟨_,rfl⟩
 rw [hua] at u0 u1 HE;unfold Rl.val;simp only
 have HQ:Hid (∀w',Below (w.heap.size+1) (w.alloc (.cells #[.int .u64 of,.int .u32 ty,.int .u32 sy,.int .i64 ad] 78)) w'→Blk w' w.heap.size #[.int .u64 of,.int .u32 ty,.int .u32 sy,.int .i64 ad] 78∧w.heap.size+1≤w'.heap.size):=hZz (fun w' hb=>
  ⟨(Blk.new w _ _).below hb (Nat.lt_succ_self _),by have:=hb.size;simp at this;omega⟩)
 have HB0:Hid (Below (w.heap.size+1) (w.alloc (.cells #[.int .u64 of,.int .u32 ty,.int .u32 sy,.int .i64 ad] 78)) (w.alloc (.cells #[.int .u64 of,.int .u32 ty,.int .u32 sy,.int .i64 ad] 78))):=hZz (Below.refl _ _);have HBW:Hid (Below w.heap.size w (w.alloc (.cells #[.int .u64 of,.int .u32 ty,.int .u32 sy,.int .i64 ad] 78))):=hZz ((Below.refl _ _).alloc (lZr _) _);have HO0:Hid ((w.alloc (.cells #[.int .u64 of,.int .u32 ty,.int .u32 sy,.int .i64 ad] 78)).ownsRow (w.heap.size+1) 5 1 (.slice none 0 0) 0 (([]:List Int).map (Value.int .u8))):=hZz (World.ownsRow_nil _ _ _ _);clear hzs;go_enter Tryz.func42,Tryz.ntmps42
 go_wp2_with fail;refine (jk (w.heap.size+1) _ 0 [] of _ HO0.out (HQ.out _ HB0.out).2 dZc oZm oZm).mono ?_;rintro r w1 ⟨v1,rfl,ho,hb⟩;have HO1:Hid (w1.ownsRow (w.heap.size+1) 5 1 v1 8 ((ai of 8).map (Value.int .u8))):=hZz (by simpa using ho);have HB1:=hZz (HB0.out.trans hb);obtain ⟨q0,q1,q2,q3⟩:=Rl.cs (HQ.out _ HB1.out).1;clear ho hb;go_wp2_with fail;refine (jk (w.heap.size+1) _ 8 (ai of 8) (ty+sy*4294967296) _ HO1.out (HQ.out _ HB1.out).2 dZc oZm oZm).mono ?_;rintro r w2 ⟨v2,rfl,ho,hb⟩;have HO2:=hZz ho;have HB2:=hZz (HB1.out.trans hb);obtain ⟨r0,r1,r2,r3⟩:=Rl.cs (HQ.out _ HB2.out).1;clear ho hb q0 q1 q2 q3;go_wp2_with fail;refine (jk (w.heap.size+1) _ 16 (ai of 8++ai (ty+sy*4294967296) 8) ua _ HO2.out (HQ.out _ HB2.out).2 dZc u0 u1).mono ?_;rintro r w3 ⟨v3,rfl,ho,hb⟩;rw [HE.out] at ho;have HO3:=hZz (bL ho (Nat.le_succ w.heap.size));have HB3:=hZz (HBW.out.trans ((HB2.out.trans hb).mono (Nat.le_succ _)));clear ho hb;go_wp2;go_ret;exact ⟨⟨_,rfl,HO3.out⟩,HB3.out⟩
theorem oh:(Tryz.prog.info? 78).map (fun i=>(i.zero,i.size,i.bytes))=some (some (.agg #[.int .u64 0,.int .u32 0,.int .u32 0,.int .i64 0]),4,24):=by kernel_rfl
theorem mA (s:Rl):∀u∈[Value.int .u64 s.of,.int .u32 s.ty,.int .u32 s.sy,.int .i64 s.ad],u.oneCell'=true:=by
 intro u hu;simp only [List.mem_cons,List.not_mem_nil,or_false] at hu;rcases hu with rfl | rfl | rfl | rfl<;>rfl
theorem mH (w:World) (L:List Value) (t:TypeId) (g:Nat) (hg:g=w.heap.size):∀(j:Nat) (u:Value),L[j]?=some u→(w.alloc (.cells L.toArray t)).cell? ((⟨g,0,none⟩:Addr).add j)=some u:=by
 intro j u hj;subst hg;rw [cD,Nat.zero_add,(Blk.new w _ _).cell];simpa using hj

end Go.Proofs.YtclgbdfkdbbinaaGreat
