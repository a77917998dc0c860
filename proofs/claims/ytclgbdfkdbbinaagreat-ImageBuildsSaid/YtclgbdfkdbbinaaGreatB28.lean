/-
  What is proved here: words and contracts, a part of those that the statement rests on (B28).
  Conditions: none but that the arguments are values of their types.
-/
import Derived.Test.YtclgbdfkdbbinaaGreatB0
import Derived.Test.YtclgbdfkdbbinaaGreatB18
import Derived.Test.YtclgbdfkdbbinaaGreatB4
import Derived.Test.YtclgbdfkdbbinaaGreatB1
import Derived.Test.YtclgbdfkdbbinaaGreatB19
import Derived.Test.YtclgbdfkdbbinaaGreatB27
import Derived.Test.YtclgbdfkdbbinaaGreatB5
import Derived.Test.YtclgbdfkdbbinaaGreatB24
import Derived.Deep.Cut
import Derived.Deep.CutBlock
import Derived.Deep.DeepCutAuto
import Derived.Laws.AppendOwn
import Derived.Laws.MakeOwn
import Derived.Laws.OwnMore
set_option linter.unusedVariables false
set_option linter.unusedSimpArgs false
set_option maxRecDepth 100000
set_option maxHeartbeats 12800000
namespace Go.Proofs.YtclgbdfkdbbinaaGreat
open Go.RowKit
structure Few (m:Sp):Prop where
 co:m.co.length≤3000
 da:m.da.length≤3000
 tl:m.tl.length≤3000
 df:m.df.length≤30
 fx:m.fx.length≤30
 nd:m.nd.length≤20
 so:m.so.size≤300
 dn:∀d∈m.df,d.nm.size≤300
 nn:∀s∈m.nd,s.size≤300
def dB (m:Sp) (w:World) (e:Ending) (w':World):Prop:=(∃b,e=.returned (.bool b)∧(b=true→Few m))∧Below w.heap.size w w'
theorem uy {α:Type} {L:List α} {n:Nat} {z:α} {P:α→Prop} (e:L.length=n) (h:∀j,j<n→P (L.getD j z)):∀d∈L,P d:=by
 intro d hd;obtain ⟨j,hj,rfl⟩:=List.getElem_of_mem hd;have:=h j oZm
 rwa [gZe,gZg hj] at this
theorem dB.no {m:Sp} {w w':World} (h:Below w.heap.size w w'):dB m w (.returned (.bool false)) w':=⟨⟨false,rfl,fun e=>by cases e⟩,h⟩
theorem uK (B:Nat) (x:Spv) (m:Sp) (w:World) (h:x.Is w B m) (hB:B≤w.heap.size) (hso:m.so.size≤maxLen) (hns:∀s∈m.nd,s.size≤maxLen) :
 Calls Tryz.prog 14 #[x.val] w (dB m w):=by
 have HND:=hZz h.nd;have HDF:=hZz h.df;have hse:=h.so;have hnl:=h.nd.1;have hcl:=h.co.1;have hdl:=h.da.1;have htl:=h.tl.1;have hfl:=h.df.hl;have hxl:=h.fx.hl;have ond:=h.ond;have oco:=h.oco;have oda:=h.oda;have otl:=h.otl;have odf:=h.odf;have ofx:=h.ofx;obtain ⟨k,so,⟨nda,ndn,ndc⟩,en,⟨coa,con,coc⟩,⟨daa,dan,dac⟩,bz,⟨tla,tln,tlc⟩,tz,⟨dfa,dfn,dfc⟩,⟨fxa,fxn,fxc⟩⟩:=x;simp only at HND HDF hse hnl hcl hdl htl hfl hxl ond oco oda otl odf ofx;subst hse;have b1:=ond.le;have b2:=ond.max;have b3:=oco.le;have b4:=oco.max;have b5:=oda.le;have b6:=oda.max;have b7:=otl.le;have b8:=otl.max;have b9:=odf.le;have b10:=odf.max;have b11:=ofx.le;have b12:=ofx.max;simp only at b1 b2 b3 b4 b5 b6 b7 b8 b9 b10 b11 b12;have i1:(ndn:Int)≤9223372036854775807:=by omega
 have i2:(con:Int)≤9223372036854775807:=by omega
 have i3:(dan:Int)≤9223372036854775807:=by omega
 have i4:(tln:Int)≤9223372036854775807:=by omega
 have i5:(dfn:Int)≤9223372036854775807:=by omega
 have i6:(fxn:Int)≤9223372036854775807:=by omega
 have i7:(m.so.size:Int)≤9223372036854775807:=by unfold maxLen at hso;omega
 have HNS:=hZz hns;have HLN:=hZz (show m.nd.length=ndn∧m.co.length=con∧m.da.length=dan∧m.tl.length=tln∧m.df.length=dfn∧m.fx.length=fxn from ⟨hnl,hcl,hdl,htl,hfl,hxl⟩);clear h ond oco oda otl odf ofx b1 b2 b3 b4 b5 b6 b7 b8 b9 b10 b11 b12 hnl hcl hdl htl hfl hxl hso hns;unfold Spv.val;simp only
 have HBX:Hid (Blk (w.alloc (.cells #[.int .i64 k,.string m.so,.slice nda ndn ndc,.int .u64 en,.slice coa con coc,.slice daa dan dac,.int .u64 bz,.slice tla tln tlc,.int .u64 tz,.slice dfa dfn dfc,.slice fxa fxn fxc] 47)) w.heap.size #[.int .i64 k,.string m.so,.slice nda ndn ndc,.int .u64 en,.slice coa con coc,.slice daa dan dac,.int .u64 bz,.slice tla tln tlc,.int .u64 tz,.slice dfa dfn dfc,.slice fxa fxn fxc] 47):=hZz (Blk.new _ _ _);have HBE:Hid (Below w.heap.size w (w.alloc (.cells #[.int .i64 k,.string m.so,.slice nda ndn ndc,.int .u64 en,.slice coa con coc,.slice daa dan dac,.int .u64 bz,.slice tla tln tlc,.int .u64 tz,.slice dfa dfn dfc,.slice fxa fxn fxc] 47))):=hZz ((Below.refl _ _).alloc (lZr _) _);by_cases t0:3000<con
 ·have j0:(3000:Int)<con:=by omega
  go_enter Tryz.func14,Tryz.ntmps14
  go_wp2;go_ret;exact dB.no HBE.out
 have j0:(con:Int)≤3000:=by omega
 by_cases t1:3000<dan
 ·have j1:(3000:Int)<dan:=by omega
  go_enter Tryz.func14,Tryz.ntmps14
  go_wp2;go_ret;exact dB.no HBE.out
 have j1:(dan:Int)≤3000:=by omega
 by_cases t2:3000<tln
 ·have j2:(3000:Int)<tln:=by omega
  go_enter Tryz.func14,Tryz.ntmps14
  go_wp2;go_ret;exact dB.no HBE.out
 have j2:(tln:Int)≤3000:=by omega
 by_cases t3:30<dfn
 ·have j3:(30:Int)<dfn:=by omega
  go_enter Tryz.func14,Tryz.ntmps14
  go_wp2;go_ret;exact dB.no HBE.out
 have j3:(dfn:Int)≤30:=by omega
 by_cases t4:30<fxn
 ·have j4:(30:Int)<fxn:=by omega
  go_enter Tryz.func14,Tryz.ntmps14
  go_wp2;go_ret;exact dB.no HBE.out
 have j4:(fxn:Int)≤30:=by omega
 by_cases t5:20<ndn
 ·have j5:(20:Int)<ndn:=by omega
  go_enter Tryz.func14,Tryz.ntmps14
  go_wp2;go_ret;exact dB.no HBE.out
 have j5:(ndn:Int)≤20:=by omega
 by_cases t6:300<m.so.size
 ·have j6:(300:Int)<m.so.size:=by omega
  go_enter Tryz.func14,Tryz.ntmps14
  go_wp2;go_ret;exact dB.no HBE.out
 have j6:(m.so.size:Int)≤300:=by omega
 go_enter Tryz.func14,Tryz.ntmps14
 go_wp2;go_loopw [3] (fun i wr=>∃q:Nat,q≤dfn∧i=.int .i64 q∧(∀j,j<q→(m.df.getD j Df.zero).nm.size≤300)∧Below w.heap.size w wr∧Blk wr w.heap.size #[.int .i64 k,.string m.so,.slice nda ndn ndc,.int .u64 en,.slice coa con coc,.slice daa dan dac,.int .u64 bz,.slice tla tln tlc,.int .u64 tz,.slice dfa dfn dfc,.slice fxa fxn fxc] 47) (fun i _=>dfn-(intOf i).toNat)
 case atStart=>exact ⟨0,Nat.zero_le _,rfl,fun j hj=>absurd hj oZm,HBE.out,HBX.out⟩
 case round=>
  obtain ⟨q,hq,rfl,hno,hbel,hblk⟩:=hrel;have HB:=hZz hbel;have HK:=hZz hblk;have hsz:=hbel.size;have hlw:=hblk.lt;have q9:wr.cell? ⟨w.heap.size,9,none⟩=some (.slice dfa dfn dfc):=hblk.cell 9;have q2:wr.cell? ⟨w.heap.size,2,none⟩=some (.slice nda ndn ndc):=hblk.cell 2;by_cases hlt:q<dfn
  ·obtain ⟨b,off,hdfa,hbB,hcell⟩:=HDF.out.hc oZm;subst hdfa;have hbw0:b<w.heap.size:=Nat.lt_of_lt_of_le hbB hB;obtain ⟨c0,c1,c2,c3⟩:=(hcell q hlt).below hbel hbw0;have hbw:b<wr.heap.size:=by omega
   have hqi:(q:Int)<dfn:=by omega
   have HNX:=hZz (fun h=>ia (P:=fun j=>(m.df.getD j Df.zero).nm.size≤300) hno h);generalize m.df.getD q Df.zero=d at c0 c1 c2 c3 HNX;obtain ⟨dn,dw,dof,dk⟩:=d;simp only at c0 c1 c2 c3;clear hcell hno hbel hblk c1 c2 c3;by_cases hn:300<dn.size
   ·have hni:(300:Int)<dn.size:=by omega
    go_wp2;go_ret;exact dB.no HB.out
   ·have hni:(dn.size:Int)≤300:=by omega
    have HN:=hZz (HNX.out (by show dn.size≤300;omega));go_wp2;go_roundw
    case rel=>exact ⟨q+1,by omega,by go_num,HN.out,HB.out,HK.out⟩
    case measure=>(simp [intOf]<;>omega)
  ·obtain rfl:q=dfn:=by omega
   have HD:=hZz hno;clear hno hlt hbel hblk;go_wp2;go_loopw [4] (fun i wz=>∃z:Nat,z≤ndn∧i=.int .i64 z∧(∀j,j<z→(m.nd.getD j .empty).size≤300)∧Below w.heap.size w wz∧Blk wz w.heap.size #[.int .i64 k,.string m.so,.slice nda ndn ndc,.int .u64 en,.slice coa con coc,.slice daa dan dac,.int .u64 bz,.slice tla tln tlc,.int .u64 tz,.slice dfa q dfc,.slice fxa fxn fxc] 47) (fun i _=>ndn-(intOf i).toNat)
   case atStart=>exact ⟨0,Nat.zero_le _,rfl,fun j hj=>absurd hj oZm,HB.out,HK.out⟩
   case round=>
    clear q9 q2 hlw hsz HB HK;obtain ⟨z,hz,rfl,hno,hbel,hblk⟩:=hrel;have HB:=hZz hbel;have HK:=hZz hblk;have hsz:=hbel.size;have hlw:=hblk.lt;have q2:wr.cell? ⟨w.heap.size,2,none⟩=some (.slice nda ndn ndc):=hblk.cell 2;by_cases hlt:z<ndn
    ·obtain ⟨b,off,hnda,hbB,hcell⟩:=HND.out.2 oZm;subst hnda;have hbw0:b<w.heap.size:=Nat.lt_of_lt_of_le hbB hB;have c0:=(hbel.cell (p:=⟨b,off+z,none⟩) hbw0).trans (hcell z hlt);have hbw:b<wr.heap.size:=by omega
     have hzi:(z:Int)<ndn:=by omega
     have HNX:=hZz (fun h=>ia (P:=fun j=>(m.nd.getD j .empty).size≤300) hno h);generalize m.nd.getD z .empty=dn at c0 HNX;clear hcell hno hbel hblk;by_cases hn:300<dn.size
     ·have hni:(300:Int)<dn.size:=by omega
      go_wp2;go_ret;exact dB.no HB.out
     ·have hni:(dn.size:Int)≤300:=by omega
      have HN:=hZz (HNX.out (by show dn.size≤300;omega));go_wp2;go_roundw
      case rel=>exact ⟨z+1,by omega,by go_num,HN.out,HB.out,HK.out⟩
      case measure=>(simp [intOf]<;>omega)
    ·obtain rfl:z=ndn:=by omega
     have HE:=hZz hno;clear hno hlt hbel hblk;go_wp2;go_ret;refine ⟨⟨true,rfl,fun _=>?_⟩,HB.out⟩;obtain ⟨e1,e2,e3,e4,e5,e6⟩:=HLN.out;exact ⟨by omega,by omega,by omega,by omega,by omega,by omega,by omega,uy e5 HD.out,uy e1 HE.out⟩
theorem kc (z:Value) (h:z.cells=#[z]) (m:Nat):Builtin.zeroCells z.cells m=(List.replicate m z).toArray:=by
 rw [h];apply Array.ext_getElem?
 intro j;simp only [Builtin.zeroCells,Array.getElem?_map,List.getElem?_toArray];by_cases hj:j<m
 ·rw [Array.getElem?_eq_getElem (by simpa using hj),List.getElem?_replicate];simp [hj,Nat.mod_one]
 ·rw [Array.getElem?_eq_none (by simpa using hj),List.getElem?_eq_none (by simpa using hj)];rfl
theorem ix {P:Program} (k:IntKind) (w:World) (base:Nat) (t xt ty e:TypeId) (i:TypeInfo) (z:Value) (ht:P.underlying t=some (.slice e)) (hx:P.underlying xt=some (.int k)) (hi:P.info? e=some i) (hz:i.zero=some z)
 (hsize:i.size=1) (hby:i.bytes=1) (hzs:z.cells=#[z]) (hz1:z.oneCell'=true)
 (v:Value) (n:Nat) (xs:List Value) (hown:w.ownsRow base e 1 v n xs) (m:Nat) (hw:IntKind.i64.wrap (m:Int)=m) (h63:n+m≤140737488355328) (hbase:base≤w.heap.size) :
 ∃v' w',(Builtin.append_ #[t,xt] ty #[v,.int k m]).run P w=.ok v' w'∧w'.ownsRow base e 1 v' (n+m) (xs++List.replicate m z)∧w.grownBy w' v.ownBlock:=by
 have hzc:=kc z hzs;rcases Nat.eq_zero_or_pos m with rfl | hm
 ·have hw0:IntKind.i64.wrap 0=0:=rfl;refine ⟨v,w,?_,by simpa using hown,⟨rfl,rfl,rfl,lZr _,fun _ _ _=>rfl⟩⟩;rcases hown.2 with ⟨rfl,rfl⟩ | ⟨g,cap,cur,rfl,hbg,hg,hnc,hcm,hcs,htake⟩
  ·simp [Builtin.append_,run_underlying ht,run_underlying hx,sizeOf,typeInfo,zeroValue,hi,hz,hsize,hby,asInt,asIntOf,hw0]
  ·simp [Builtin.append_,run_underlying ht,run_underlying hx,sizeOf,typeInfo,zeroValue,hi,hz,hsize,hby,asInt,asIntOf,hw0,hnc,storeCells]
 have hlen:(xs++List.replicate m z).length=(n+m)*1:=by rw [lZa,hown.1,List.length_replicate];omega
 have hm0:¬((m:Int)<0):=by omega
 have hmn:m≠0:=by omega
 have hmb:¬(281474976710656<(m:Int)):=by omega
 have grown:∀(old:Nat),old<n+m→∀(row:Option Nat),
  (w.drew.alloc (.cells (xs.toArray++(List.replicate m z).toArray++Builtin.zeroCells z.cells (grownCap w (n+m) old e-(n+m))) e)).ownsRow base e 1
   (.slice (some ⟨w.heap.size,0,none⟩) (n+m) (grownCap w (n+m) old e)) (n+m) (xs++List.replicate m z)∧
  w.grownBy (w.drew.alloc (.cells (xs.toArray++(List.replicate m z).toArray++Builtin.zeroCells z.cells (grownCap w (n+m) old e-(n+m))) e)) row:=by
  intro old ho row;have hge:=grownCap_ge w (n+m) old e;have hcm:grownCap w (n+m) old e≤maxLen:=grownCap_le_maxLen w (n+m) old e (by unfold maxLen;omega);refine ⟨⟨hlen,.inr ⟨w.heap.size,_,_,rfl,hbase,heap_alloc_new w.drew _,hge,hcm,?_,?_⟩⟩,⟨rfl,rfl,rfl,by simp,fun k hk _=>heap_alloc_old w.drew _ hk⟩⟩
  ·rw [hzc];simp only [Array.size_append,List.size_toArray,hown.1,List.length_replicate];omega
  ·simp only [Array.toList_append,List.append_assoc];rw [←List.append_assoc,←hlen];exact List.take_left
 rcases hown.2 with ⟨rfl,rfl⟩ | ⟨g,cap,cur,rfl,hbg,hg,hnc,hcm,hcs,htake⟩
 ·have hxs:xs=[]:=List.eq_nil_of_length_eq_zero (by simpa using hown.1);subst hxs;have hgr:=grown 0 oZm (Value.ownBlock (.slice none 0 0));have h48':¬(281474976710656<Builtin.nextslicecap m 0*1):=by rw [nextslicecap_zero hm];omega
  have h63':¬(9223372036854775807<(m:Int)):=by omega
  simp only [Nat.zero_add,List.nil_append,Array.empty_append] at hgr⊢;refine ⟨_,_,?_,hgr.1,hgr.2⟩;simp [Builtin.append_,run_underlying ht,run_underlying hx,sizeOf,typeInfo,zeroValue,hi,hz,hsize,hby,asInt,asIntOf,hw,hm0,hmn,hmb,h63',Question.forced,run_firstCells_none,newRow,grownCap,hzc]
  simp only [Nat.mul_one] at h48';simp [h48']
 ·by_cases hroom:n+m≤cap
  ·have hfit:n*1+(List.replicate m z).length≤cur.size:=by rw [hcs,List.length_replicate];omega
   have hst:=run_storeCells_at P g (n*1) e (List.replicate m z) 0 cur w hg (by simpa using hfit) (fun u hu=>by rw [List.eq_of_mem_replicate hu];exact hz1);simp only [Nat.add_zero,Nat.mul_one] at hst;refine ⟨.slice (some ⟨g,0,none⟩) (n+m) cap,w.setRow g (cur.toList.take n++List.replicate m z++cur.toList.drop (n+(List.replicate m z).length)).toArray,?_,⟨hlen,.inr ⟨g,cap,_,rfl,hbg,setRow_heap w g cur _ e _ hg,hroom,hcm,?_,?_⟩⟩,⟨rfl,rfl,rfl,by simp,fun k _ hk=>setRow_other w g k _ (fun e=>hk (by simp [Value.ownBlock,e]))⟩⟩
   ·simp [Builtin.append_,run_underlying ht,run_underlying hx,sizeOf,typeInfo,zeroValue,hi,hz,hsize,hby,asInt,asIntOf,hw,hm0,hmn,hmb,hroom,hzc,Addr.add_lit,hst]
   ·simp only [List.size_toArray,lZa,List.length_take,List.length_drop,Array.length_toList,List.length_replicate] at hfit⊢;omega
   ·simp only [Nat.mul_one] at htake hlen⊢;rw [htake,←hlen];exact List.take_left
  ·have holds:∀j u,xs[j]?=some u→w.cell? ((⟨g,0,none⟩:Addr).add j)=some u:=hown.cells (g:=g) rfl;have hgr:=grown cap oZm (Value.ownBlock (.slice (some ⟨g,0,none⟩) n cap));have hn:¬(n+m≤cap):=hroom;have h63':¬(9223372036854775807<((n:Int)+(m:Int))):=by omega
   have h48':¬(281474976710656<Builtin.nextslicecap (n+m) cap*1):=by have:=growslice_fits (bytes:=1) (show cap<n+m by omega) oZm;omega
   have hfo:=run_firstCells_some (P:=P) w.drew 1 n ⟨g,0,none⟩ n cap xs (by simpa using hown.1) (by simpa using holds);refine ⟨_,_,?_,hgr.1,hgr.2⟩;simp only [Nat.mul_one] at h48';simp [Builtin.append_,run_underlying ht,run_underlying hx,sizeOf,typeInfo,zeroValue,hi,hz,hsize,hby,asInt,asIntOf,hw,hm0,hmn,hmb,hn,h63',h48',Question.forced,hfo,newRow,grownCap,hzc]
theorem gE {P:Program} (k:IntKind) {w:World} {ops:Array Oper} {rest:List Oper} {o:Oper} {a:Act} {Q:Exit→Act→World→Prop} (hgd:o.guard=none) (s x:Operand) (t xt:TypeId)
 (ho:o.op=.call { callee:=.builtin .append,args:=#[s,x],argTypes:=#[t,xt] })
 (base:Nat) (e:TypeId) (i:TypeInfo) (z:Value) (ht:P.underlying t=some (.slice e)) (hxt:P.underlying xt=some (.int k)) (hi:P.info? e=some i) (hz:i.zero=some z)
 (hsize:i.size=1) (hby:i.bytes=1) (hzs:z.cells=#[z]) (hz1:z.oneCell'=true)
 (v:Value) (n:Nat) (xs:List Value) (hs:a.eval s=v) (hown:w.ownsRow base e 1 v n xs) (m:Nat) (hx:a.eval x=.int k m) (hw:IntKind.i64.wrap (m:Int)=m) (h63:n+m≤140737488355328) (hbase:base≤w.heap.size)
 (h:∀v' w',w'.ownsRow base e 1 v' (n+m) (xs++List.replicate m z)→w.grownBy w' v.ownBlock→wpList P ops Q rest (a.put o.dst v') w'):wpList P ops Q (o :: rest) a w:=by
 refine wpList_plain hgd fun _ hK=>?_;obtain ⟨v',w',hr,h2,h3⟩:=ix (P:=P) k w base t xt o.type e i z ht hxt hi hz hsize hby hzs hz1 v n xs hown m hw h63 hbase;unfold Oper.wp execOp;simp only [ho,resolve,invoke,builtin,Sem.run_bind,Sem.run_pure,Result.andThen_ok,List.map_toArray,List.map_cons,List.map_nil,hs,hx,hr];exact hK _ _ (h v' w' h2 h3)
def jm (P:Program) (ops:List Oper) (J:(Nat→Bool)→(Nat→Value)→World→Prop) (n:Nat) (x:List Value) (d:List Deferred) (dsts:List Nat) (R:World→World→Prop) (F:Nat→Value→World→Prop):Nat→List Oper→Prop
 | _,[]=>True
 | i,o :: l=>(∀(L:Nat→Bool) (y:Nat→Value) (w:World),J L y w→L i=false→(∀t,t ∉ dsts→y t=x.getD t undef)→(∀j,j∈cG o→L j=true∧(dsts.getD j 0<n→F j (y (dsts.getD j 0)) w))→
  (∀k q,ops[k]?=some q→L k=true→∀j,j∈cG q→L j=true)→(∀k,k<ops.length→L k=false→dsts.getD k 0<n→y (dsts.getD k 0)=x.getD (dsts.getD k 0) undef)→
  cf P o ⟨af n y,d⟩ w fun u w'=>R w w'∧(dsts.getD i 0<n→F i u w')∧J (upd L i) (fun s=>if s=dsts.getD i 0 then u else y s) w')∧jm P ops J n x d dsts R F (i+1) l
theorem jm.get {P:Program} {ops:List Oper} {J:(Nat→Bool)→(Nat→Value)→World→Prop} {n:Nat} {x:List Value} {d:List Deferred} {dsts:List Nat} {R:World→World→Prop} {F:Nat→Value→World→Prop} :
 ∀{l:List Oper} {k:Nat},jm P ops J n x d dsts R F k l→∀i o,l[i]?=some o→
  ∀(L:Nat→Bool) (y:Nat→Value) (w:World),J L y w→L (k+i)=false→(∀t,t ∉ dsts→y t=x.getD t undef)→(∀j,j∈cG o→L j=true∧(dsts.getD j 0<n→F j (y (dsts.getD j 0)) w))→
   (∀k q,ops[k]?=some q→L k=true→∀j,j∈cG q→L j=true)→(∀k,k<ops.length→L k=false→dsts.getD k 0<n→y (dsts.getD k 0)=x.getD (dsts.getD k 0) undef)→
   cf P o ⟨af n y,d⟩ w fun u w'=>R w w'∧(dsts.getD (k+i) 0<n→F (k+i) u w')∧J (upd L (k+i)) (fun s=>if s=dsts.getD (k+i) 0 then u else y s) w'
 | [],_,_,_,_,h=>by simp at h
 | o :: l,k,hs,0,o',h=>by
   simp only [List.getElem?_cons_zero,Option.some.injEq] at h;subst h;exact hs.1
 | o :: l,k,hs,i+1,o',h=>by
   rw [List.getElem?_cons_succ] at h;have:=hs.2.get i o' h
   rwa [show k+1+i=k+(i+1) from by omega] at this
section
variable {P:Program} {Q:Exit→Act→World→Prop}
theorem uC {l:List Oper} {x:List Value} {d:List Deferred} (dsts:List Nat) (R:World→World→Prop) (F:Nat→Value→World→Prop) (J:(Nat→Bool)→(Nat→Value)→World→Prop)
 (hmono:∀i u w w',F i u w→R w w'→F i u w') (hJ:∀L L' y w,(∀i,i<l.length→L i=L' i)→J L y w→J L' y w)
 (hok:fV l dsts x.length=true) (hsteps:jm P l J x.length x d dsts R F 0 l)
 (hend:∀(y:Nat→Value) (L:Nat→Bool) (w:World),J L y w→(∀i,i<l.length→L i=true)→(∀i,i<l.length→dsts.getD i 0<x.length→F i (y (dsts.getD i 0)) w)→(∀t,t ∉ dsts→y t=x.getD t undef)→Q .normal ⟨af x.length y,d⟩ w) :
 ∀(fuel:Nat) (listed:Array Bool) (y:Nat→Value) (w:World),left listed≤fuel→listed.size=l.length→(∀t,t ∉ dsts→y t=x.getD t undef)→
  (∀i,listed[i]?=some true→dsts.getD i 0<x.length→F i (y (dsts.getD i 0)) w)→J (fun i=>listed.getD i false) y w→
  (∀k q,l[k]?=some q→listed.getD k false=true→∀j,j∈cG q→listed.getD j false=true)→(∀k,k<l.length→listed.getD k false=false→dsts.getD k 0<x.length→y (dsts.getD k 0)=x.getD (dsts.getD k 0) undef)→wpAny P .any l.toArray Q fuel listed ⟨af x.length y,d⟩ w:=by
 simp only [fV,Bool.and_eq_true,decide_eq_true_eq,List.all_eq_true,List.mem_range] at hok;obtain ⟨⟨⟨hdl,hnd⟩,hfm⟩,hord⟩:=hok;have fin:∀(listed:Array Bool) (y:Nat→Value) (w:World),listed.size=l.length→(∀t,t ∉ dsts→y t=x.getD t undef)→
  (∀i,listed[i]?=some true→dsts.getD i 0<x.length→F i (y (dsts.getD i 0)) w)→J (fun i=>listed.getD i false) y w→(∀i,i<l.length→listed[i]?=some true)→Q .normal ⟨af x.length y,d⟩ w:=by
  intro listed y w hsz hy hF hb hall;exact hend y _ w hb (fun i hi=>by rw [Array.getD_eq_getD_getElem?,hall i hi];rfl) (fun i hi hn=>hF i (hall i hi) hn) hy
 intro fuel;induction fuel with
 | zero=>
   intro listed y w hf hsz hy hF hb hcl hun;have hall:∀i,i<l.length→listed[i]?=some true:=fun i hi=>by
    have:=eX listed.toList (by unfold left at hf;omega) i (by rw [Array.length_toList,hsz];exact hi);simpa using this
   refine ⟨?_,fin listed y w hsz hy hF hb hall⟩;apply List.eq_nil_iff_forall_not_mem.2
   intro j hj;obtain ⟨h0,o,ho,_⟩:=mem_ready.1 hj;have hjl:j<l.length:=by
    have:=(Array.getElem?_eq_some_iff.1 ho).1;simpa using this
   rw [Array.getD_eq_getD_getElem?,hall j hjl] at h0;cases h0
 | succ fuel ih=>
   intro listed y w hf hsz hy hF hb hcl hun;refine ⟨fun hr=>?_,fun i hi=>?_⟩
   ·refine fin listed y w hsz hy hF hb ?_;intro i;induction i using Nat.strongRecOn with
    | ind i ihi=>
      intro hi;cases hli:listed[i]? with
      | none=>rw [Array.getElem?_eq_none_iff] at hli;omega
      | some b=>
        cases b with
        | true=>rfl
        | false=>
          exfalso
          have:i∈Region.ready .any l.toArray listed:=by
           refine mem_ready.2 ⟨by rw [Array.getD_eq_getD_getElem?,hli];rfl,l[i],by rw [List.getElem?_toArray,gZg hi],fun e he hbe=>?_⟩;have h1:=hord i hi;rw [gZg hi] at h1;have h2:=List.all_eq_true.1 h1 e (by simpa using he);rw [hbe] at h2;have h3:e.on<i:=by simpa using h2
           rw [Array.getD_eq_getD_getElem?,ihi e.on h3 (by omega)];rfl
          rw [hr] at this;cases this
   ·obtain ⟨h0,o,ho,hall⟩:=mem_ready.1 hi;have ho':l[i]?=some o:=by simpa using ho
    have hil:i<l.length:=(List.getElem?_eq_some_iff.1 ho').1;have hli:listed[i]?=some false:=by
     cases hli:listed[i]? with
     | none=>rw [Array.getElem?_eq_none_iff] at hli;omega
     | some b=>rw [Array.getD_eq_getD_getElem?,hli] at h0;rw [show b=false from h0]
    have hst:=hsteps.get i o ho' (fun i=>listed.getD i false) y w hb (by rw [Nat.zero_add];show listed.getD i false=false;rw [Array.getD_eq_getD_getElem?,hli];rfl) hy (fun j hj=>by
     unfold cG at hj;obtain ⟨e,he,rfl⟩:=List.mem_map.1 hj;obtain ⟨he1,he2⟩:=List.mem_filter.1 he;have hl:=hall e (by simpa using he1) he2;refine ⟨hl,hF e.on ?_⟩;cases hle:listed[e.on]? with
     | none=>rw [Array.getD_eq_getD_getElem?,hle] at hl;cases hl
     | some b=>rw [Array.getD_eq_getD_getElem?,hle] at hl;rw [show b=true from hl]) hcl hun
    rw [Nat.zero_add] at hst;obtain ⟨t,ht⟩:∃t,dsts[i]?=some t:=⟨dsts[i]'(by omega),gZg oZm⟩
    have htd:dsts.getD i 0=t:=by rw [gZe,ht];rfl
    have hfi:=hfm i hil;rw [ho',ht] at hfi;simp only [Bool.and_eq_true,Bool.or_eq_true,decide_eq_true_eq] at hfi;obtain ⟨hgd,hfi⟩:=hfi;have after:∀u w',(R w w'∧(dsts.getD i 0<x.length→F i u w')∧J (upd (fun i=>listed.getD i false) i) (fun s=>if s=dsts.getD i 0 then u else y s) w')→wpAny P .any l.toArray Q fuel (listed.setIfInBounds i true) (Act.put ⟨af x.length y,d⟩ o.dst u) w':=by
     rintro u w' ⟨hR,hu,hJw⟩;rw [htd] at hu;have ea:(Act.put ⟨af x.length y,d⟩ o.dst u)=⟨af x.length (fun s=>if s=t then u else y s),d⟩:=by
      rcases hfi with ⟨h1,h2⟩ | ⟨h1,h2⟩
      ·rw [h1];simp only [Act.put,eD]
      ·have:o.dst=none:=by simpa using h1
       rw [this];simp only [Act.put]
       congr 1
       apply Array.ext_getElem?
       intro s;by_cases hs:s<x.length
       ·rw [aS _ _ _ hs,aS _ _ _ hs,if_neg (by omega)]
       ·rw [Array.getElem?_eq_none (by rw [aQ];omega),Array.getElem?_eq_none (by rw [aQ];omega)]
     rw [ea];have hlf:=fW listed.toList i (by simpa using hli);have hup:∀j,(listed.setIfInBounds i true).getD j false=if j=i then true else listed.getD j false:=by
      intro j;by_cases hji:j=i
      ·subst hji;rw [if_pos rfl,Array.getD_eq_getD_getElem?,Array.getElem?_setIfInBounds_self_of_lt (by omega)];rfl
      ·rw [if_neg hji,Array.getD_eq_getD_getElem?,Array.getD_eq_getD_getElem?,Array.getElem?_setIfInBounds_ne (Ne.symm hji)]
     refine ih _ _ _ ?_ (by rw [Array.size_setIfInBounds,hsz]) ?_ ?_ (hJ _ _ _ _ ?_ (by rw [htd] at hJw;exact hJw)) ?_ ?_
     ·unfold left at hf⊢;rw [Array.toList_setIfInBounds];omega
     ·intro s hs;have hst:s≠t:=fun e=>hs (e▸List.mem_of_getElem? ht);simp only [hst,if_false];exact hy s hs
     ·intro j hj hjt;by_cases hji:j=i
      ·subst hji;rw [htd] at hjt⊢;simpa using hu hjt
      ·rw [Array.getElem?_setIfInBounds_ne (Ne.symm hji)] at hj;have hjl:j<dsts.length:=by
        have:=(Array.getElem?_eq_some_iff.1 hj).1;omega
       have hne:dsts.getD j 0≠t:=by
        rw [gZe,gZg hjl];intro e;have hit:dsts[i]'(by omega)=t:=(List.getElem?_eq_some_iff.1 ht).2;have:=dK hnd j i hjl oZm (show dsts[j]=dsts[i]'(by omega) from by rw [hit];simpa using e);exact hji this
       simp only [hne,if_false];exact hmono _ _ _ _ (hF j hj hjt) hR
     ·intro j hj;by_cases hji:j=i
      ·subst hji;rw [cZ,Array.getD_eq_getD_getElem?,Array.getElem?_setIfInBounds_self_of_lt (by omega)];rfl
      ·rw [aE _ hji,Array.getD_eq_getD_getElem?,Array.getD_eq_getD_getElem?,Array.getElem?_setIfInBounds_ne (Ne.symm hji)]
     ·intro k q hk hLk j hj;rw [hup] at hLk⊢;by_cases hji:j=i
      ·rw [if_pos hji]
      ·rw [if_neg hji];by_cases hki:k=i
       ·subst hki;rw [ho'] at hk;injection hk with hk;subst hk;unfold cG at hj;obtain ⟨e,he,rfl⟩:=List.mem_map.1 hj;obtain ⟨he1,he2⟩:=List.mem_filter.1 he;have hl:=hall e (by simpa using he1) he2;cases hle:listed[e.on]? with
        | none=>rw [Array.getD_eq_getD_getElem?,hle] at hl;cases hl
        | some b=>rw [Array.getD_eq_getD_getElem?,hle] at hl⊢;exact hl
       ·rw [if_neg hki] at hLk;exact hcl k q hk hLk j hj
     ·intro k hk hLk hkn;rw [hup] at hLk;by_cases hki:k=i
      ·rw [if_pos hki] at hLk;cases hLk
      ·rw [if_neg hki] at hLk;have hne:dsts.getD k 0≠t:=by
        rw [gZe,gZg (by omega)];intro e;have hit:dsts[i]'(by omega)=t:=(List.getElem?_eq_some_iff.1 ht).2;have:=dK hnd k i oZm oZm (show dsts[k]'(by omega)=dsts[i]'(by omega) from by rw [hit];simpa using e);exact hki this
       simp only [hne,if_false];exact hun k hk hLk hkn
    unfold wpOp;rw [ho];simp only
    have hw:Region.wanted o (yielded l.toArray (af x.length y))=true:=by
     have:o.guard=none:=by simpa using hgd
     unfold Region.wanted;rw [this]
    rw [if_pos hw];exact .inl (hst _ _ after)
theorem cg {id:Nat} {l:List Oper} {x:List Value} {d:List Deferred} {w:World} (hm:P.follows .mixedOrders=true) (n:Nat) (hn:x.length=n) (dsts:List Nat) (R:World→World→Prop) (F:Nat→Value→World→Prop) (J:(Nat→Bool)→(Nat→Value)→World→Prop)
 (hmono:∀i u w w',F i u w→R w w'→F i u w') (hJ:∀L L' y w,(∀i,i<l.length→L i=L' i)→J L y w→J L' y w)
 (hok:fV l dsts n=true) (hst:J (fun _=>false) (fun t=>x.getD t undef) w.drew) (hsteps:jm P l J n x d dsts R F 0 l)
 (hend:∀(y:Nat→Value) (L:Nat→Bool) (w':World),J L y w'→(∀i,i<l.length→L i=true)→(∀i,i<l.length→dsts.getD i 0<n→F i (y (dsts.getD i 0)) w')→(∀t,t ∉ dsts→y t=x.getD t undef)→Q .normal ⟨af n y,d⟩ w') :
 (Code.region id l.toArray true).wp P Q ⟨x.toArray,d⟩ w:=by
 subst hn;refine wp_region_any hm ?_;change wpAny P .any l.toArray Q _ _ _ w.drew;rw [ap x];have hl:∀n,((List.replicate n false).filter (!·)).length=n:=fun n=>by induction n with
  | zero=>rfl
  | succ n ih=>rw [List.replicate_succ];simp
 refine uC dsts R F J hmono hJ hok hsteps hend _ _ _ _ ?_ (by simp) (fun t ht=>rfl) ?_ (hJ _ _ _ _ ?_ hst) (fun k q hk hLk=>?_) (fun k hk _ _=>rfl)
 ·unfold left;rw [Array.toList_replicate,hl];exact lZr _
 ·intro i hi;rw [Array.getElem?_replicate] at hi;split at hi<;>cases hi
 ·intro i hi;rw [Array.getD_eq_getD_getElem?,Array.getElem?_replicate];split<;>rfl
 ·rw [Array.getD_eq_getD_getElem?,Array.getElem?_replicate] at hLk;split at hLk<;>cases hLk
end
theorem go.toA {P:Program} {ops:List Oper} {tg:Nat} {J:(Nat→Bool)→Value→World→Prop} {n:Nat} {x:List Value} {d:List Deferred} {dsts:List Nat} {R:World→World→Prop} {F:Nat→Value→World→Prop} :
 ∀{l:List Oper} {i:Nat},go P ops tg J n x d dsts R F i l→jm P ops (fun L y w=>J L (y tg) w) n x d dsts R F i l
 | [],_,_=>trivial
 | o :: l,i,h=>by
   refine ⟨fun L y w h1 h2 h3 h4 h5 h6=>?_,go.toA h.2⟩;intro K Q hK;refine h.1 L y w h1 h2 h3 h4 h5 h6 K Q (fun u w' hp=>hK u w' ⟨hp.1,hp.2.1,?_⟩);have h7:=hp.2.2;show J (upd L i) (if tg=dsts.getD i 0 then u else y tg) w';by_cases e:dsts.getD i 0=tg
   ·rw [if_pos e] at h7;rw [if_pos e.symm];exact h7
   ·rw [if_neg e] at h7;rw [if_neg (fun q=>e q.symm)];exact h7
theorem iW {P:Program} {Q:Exit→Act→World→Prop} {id:Nat} {l:List Oper} {x:List Value} {d:List Deferred} {w:World} (hm:P.follows .mixedOrders=true) (n:Nat) (hn:x.length=n) (dsts:List Nat) (R:World→World→Prop) (F:Nat→Value→World→Prop) (tg:Nat) (J:(Nat→Bool)→Value→World→Prop)
 (hmono:∀i u w w',F i u w→R w w'→F i u w') (hJ:∀L L' u w,(∀i,i<l.length→L i=L' i)→J L u w→J L' u w)
 (hok:fV l dsts n=true) (hst:J (fun _=>false) (x.getD tg undef) w.drew) (hsteps:go P l tg J n x d dsts R F 0 l)
 (hend:∀(y:Nat→Value) (L:Nat→Bool) (w':World),J L (y tg) w'→(∀i,i<l.length→L i=true)→(∀i,i<l.length→dsts.getD i 0<n→F i (y (dsts.getD i 0)) w')→(∀t,t ∉ dsts→y t=x.getD t undef)→Q .normal ⟨af n y,d⟩ w') :
 (Code.region id l.toArray true).wp P Q ⟨x.toArray,d⟩ w:=
 cg hm n hn dsts R F (fun L y w=>J L (y tg) w) hmono (fun L L' y w h=>hJ L L' (y tg) w h) hok hst hsteps.toA hend
def JA (S T:List Nat) (P:(Nat→Bool)→(Nat→Value)→World→Prop) (L:Nat→Bool) (y:Nat→Value) (w:World):Prop:=
 ∀L' y',(∀i∈S,L' i=L i)→(∀t∈T,y' t=y t)→P L' y' w
theorem JA.out {S T:List Nat} {P:(Nat→Bool)→(Nat→Value)→World→Prop} {L:Nat→Bool} {y:Nat→Value} {w:World} (h:JA S T P L y w):P L y w:=h L y (fun _ _=>rfl) (fun _ _=>rfl)
theorem JA.congr {S T:List Nat} {P:(Nat→Bool)→(Nat→Value)→World→Prop} {m:Nat} (hS:∀i∈S,i<m):∀L L' y w,(∀i,i<m→L i=L' i)→JA S T P L y w→JA S T P L' y w:=
 fun L L' y w h hJ L'' y'' h1 h2=>hJ L'' y'' (fun i hi=>(h1 i hi).trans (h i (hS i hi)).symm) h2
theorem JA.pure {S T:List Nat} {P:(Nat→Bool)→(Nat→Value)→World→Prop} {L:Nat→Bool} {y:Nat→Value} {w:World} {i t:Nat} {u:Value} (h:JA S T P L y w) (hi:i ∉ S) (ht:t ∉ T):JA S T P (upd L i) (fun s=>if s=t then u else y s) w:=
 fun L' y' h1 h2=>h L' y' (fun j hj=>(h1 j hj).trans (aE _ (fun (e:j=i)=>hi (by rw [←e];exact hj)))) (fun s hs=>(h2 s hs).trans (if_neg (fun (e:s=t)=>ht (by rw [←e];exact hs))))
theorem JA.step {S T:List Nat} {P:(Nat→Bool)→(Nat→Value)→World→Prop} {L:Nat→Bool} {y:Nat→Value} {w':World} {i t:Nat} {u:Value}
 (h:∀L' y',(∀j∈S,j≠i→L' j=L j)→(i∈S→L' i=true)→(∀s∈T,s≠t→y' s=y s)→(t∈T→y' t=u)→P L' y' w'):JA S T P (upd L i) (fun s=>if s=t then u else y s) w':=
 fun L' y' h1 h2=>h L' y' (fun j hj e=>(h1 j hj).trans (aE _ e)) (fun hi=>(h1 i hi).trans (cZ _ _)) (fun s hs e=>(h2 s hs).trans (if_neg e)) (fun ht=>(h2 t ht).trans (if_pos rfl))
theorem JA.of {S T:List Nat} {P:(Nat→Bool)→(Nat→Value)→World→Prop} {L:Nat→Bool} {y:Nat→Value} {w:World} (h:∀L' y',(∀i∈S,L' i=L i)→(∀t∈T,y' t=y t)→P L' y' w):JA S T P L y w:=h
structure aC (x:Spv):Prop where
 nd:x.nd.a=none→x.nd.c=0
 co:x.co.a=none→x.co.c=0
 da:x.da.a=none→x.da.c=0
 tl:x.tl.a=none→x.tl.c=0
theorem bY (y:Nat→Value):af 479 y=#[y 0,y 1,y 2,y 3,y 4,y 5,y 6,y 7,y 8,y 9,y 10,y 11,y 12,y 13,y 14,y 15,y 16,y 17,y 18,y 19,y 20,y 21,y 22,y 23,y 24,y 25,y 26,y 27,y 28,y 29,y 30,y 31,y 32,y 33,y 34,y 35,y 36,y 37,y 38,y 39,y 40,y 41,y 42,y 43,y 44,y 45,y 46,y 47,y 48,y 49,y 50,y 51,y 52,y 53,y 54,y 55,y 56,y 57,y 58,y 59,y 60,y 61,y 62,y 63,y 64,y 65,y 66,y 67,y 68,y 69,y 70,y 71,y 72,y 73,y 74,y 75,y 76,y 77,y 78,y 79,y 80,y 81,y 82,y 83,y 84,y 85,y 86,y 87,y 88,y 89,y 90,y 91,y 92,y 93,y 94,y 95,y 96,y 97,y 98,y 99,y 100,y 101,y 102,y 103,y 104,y 105,y 106,y 107,y 108,y 109,y 110,y 111,y 112,y 113,y 114,y 115,y 116,y 117,y 118,y 119,y 120,y 121,y 122,y 123,y 124,y 125,y 126,y 127,y 128,y 129,y 130,y 131,y 132,y 133,y 134,y 135,y 136,y 137,y 138,y 139,y 140,y 141,y 142,y 143,y 144,y 145,y 146,y 147,y 148,y 149,y 150,y 151,y 152,y 153,y 154,y 155,y 156,y 157,y 158,y 159,y 160,y 161,y 162,y 163,y 164,y 165,y 166,y 167,y 168,y 169,y 170,y 171,y 172,y 173,y 174,y 175,y 176,y 177,y 178,y 179,y 180,y 181,y 182,y 183,y 184,y 185,y 186,y 187,y 188,y 189,y 190,y 191,y 192,y 193,y 194,y 195,y 196,y 197,y 198,y 199,y 200,y 201,y 202,y 203,y 204,y 205,y 206,y 207,y 208,y 209,y 210,y 211,y 212,y 213,y 214,y 215,y 216,y 217,y 218,y 219,y 220,y 221,y 222,y 223,y 224,y 225,y 226,y 227,y 228,y 229,y 230,y 231,y 232,y 233,y 234,y 235,y 236,y 237,y 238,y 239,y 240,y 241,y 242,y 243,y 244,y 245,y 246,y 247,y 248,y 249,y 250,y 251,y 252,y 253,y 254,y 255,y 256,y 257,y 258,y 259,y 260,y 261,y 262,y 263,y 264,y 265,y 266,y 267,y 268,y 269,y 270,y 271,y 272,y 273,y 274,y 275,y 276,y 277,y 278,y 279,y 280,y 281,y 282,y 283,y 284,y 285,y 286,y 287,y 288,y 289,y 290,y 291,y 292,y 293,y 294,y 295,y 296,y 297,y 298,y 299,y 300,y 301,y 302,y 303,y 304,y 305,y 306,y 307,y 308,y 309,y 310,y 311,y 312,y 313,y 314,y 315,y 316,y 317,y 318,y 319,y 320,y 321,y 322,y 323,y 324,y 325,y 326,y 327,y 328,y 329,y 330,y 331,y 332,y 333,y 334,y 335,y 336,y 337,y 338,y 339,y 340,y 341,y 342,y 343,y 344,y 345,y 346,y 347,y 348,y 349,y 350,y 351,y 352,y 353,y 354,y 355,y 356,y 357,y 358,y 359,y 360,y 361,y 362,y 363,y 364,y 365,y 366,y 367,y 368,y 369,y 370,y 371,y 372,y 373,y 374,y 375,y 376,y 377,y 378,y 379,y 380,y 381,y 382,y 383,y 384,y 385,y 386,y 387,y 388,y 389,y 390,y 391,y 392,y 393,y 394,y 395,y 396,y 397,y 398,y 399,y 400,y 401,y 402,y 403,y 404,y 405,y 406,y 407,y 408,y 409,y 410,y 411,y 412,y 413,y 414,y 415,y 416,y 417,y 418,y 419,y 420,y 421,y 422,y 423,y 424,y 425,y 426,y 427,y 428,y 429,y 430,y 431,y 432,y 433,y 434,y 435,y 436,y 437,y 438,y 439,y 440,y 441,y 442,y 443,y 444,y 445,y 446,y 447,y 448,y 449,y 450,y 451,y 452,y 453,y 454,y 455,y 456,y 457,y 458,y 459,y 460,y 461,y 462,y 463,y 464,y 465,y 466,y 467,y 468,y 469,y 470,y 471,y 472,y 473,y 474,y 475,y 476,y 477,y 478]:=rfl
def RB (w wx:World) (C:Array Value) (o:Value) (zs:List Int):Prop:=bm w wx C 55 5 1 o zs.length (zs.map (Value.int .u8))
theorem RB.later {w wx w':World} {C:Array Value} {o:Value} {zs:List Int} (h:RB w wx C o zs) (hb:Below wx.heap.size wx w'):RB w w' C o zs:=bm.later h hb
theorem RB.app {w wx w':World} {C:Array Value} {o o':Value} {zs ys:List Int} {n:Nat} (h:RB w wx C o zs) (ho:w'.ownsRow (w.heap.size+1) 5 1 o' n (zs.map (Value.int .u8)++ys.map (Value.int .u8))) (hn:n=zs.length+ys.length) (hg:wx.grownBy w' o.ownBlock):RB w w' C o' (zs++ys):=by
 subst hn;refine ⟨by rw [lZa,List.map_append];exact ho,h.box.grown hg (fun e=>?_),h.bel.grown hg h.bel.size (fun q e=>?_)⟩
 ·have:=(h.own.lt _ e.symm).1;omega
 ·have:=(h.own.lt q e).1;omega
theorem RB.fill {w wx w':World} {C:Array Value} {o o':Value} {zs ys:List Int} {n:Nat} (h:RB w wx C o zs) (ho:w'.ownsRow (w.heap.size+1) 5 1 o' n (ys.map (Value.int .u8))) (hn:n=ys.length) (hb:Below (w.heap.size+1) wx w'):RB w w' C o' ys:=by
 subst hn;exact ⟨ho,h.box.below hb (Nat.lt_succ_self _),h.bel.trans (hb.mono (Nat.le_succ _))⟩
theorem iv {P:Program} {w:World} {o:Oper} {a:Act} {K:Act→World→Prop} {Q:Exit→Act→World→Prop} (s x:Operand) (t:TypeId)
 (ho:o.op=.call { callee:=.builtin .append,args:=#[s,x],argTypes:=#[t,t] })
 (base:Nat) (e:TypeId) (i:TypeInfo) (z:Value) (bytes:Nat) (ht:P.underlying t=some (.slice e)) (hi:P.info? e=some i) (hz:i.zero=some z)
 (hsize:i.size=1) (hby:i.bytes=bytes) (hzs:z.cells.size=1)
 (v:Value) (n:Nat) (xs:List Value) (hs:a.eval s=v) (hown:w.ownsRow base e 1 v n xs)
 (ad:Option Addr) (m c:Nat) (B:Nat) (L:List Int) (hx:a.eval x=.slice ad m c) (hst:Bys w B ad m L) (hc:ad=none→c=0)
 (h63:n+m≤maxLen) (hbytes:(n+m)*bytes≤140737488355328) (hbase:base≤w.heap.size)
 (h:∀v' w',w'.ownsRow base e 1 v' (n+m) (xs++L.map (Value.int .u8))→w.grownBy w' v.ownBlock→K (a.put o.dst v') w'):o.wp P a w K Q:=by
 cases ad with
 | none=>
   have hm:m=0:=by
    rcases Nat.eq_zero_or_pos m with h0 | h0
    ·exact h0
    ·obtain ⟨b,off,e,_⟩:=hst.2.2 h0;cases e
   subst hm;have hL:L=[]:=List.eq_nil_of_length_eq_zero hst.1;subst hL;obtain rfl:=hc rfl;have hrun:=run_append_owned_none (P:=P) (w:=w) base t o.type e i 1 ht hi v n xs hown;unfold Oper.wp;simp [execOp,ho,resolve,invoke,builtin,hs,hx,hrun,Result.andThen]
   exact h v w (by simpa using hown) ⟨rfl,rfl,rfl,lZr _,fun _ _ _=>rfl⟩
 | some ad=>
   refine wp_append_own w s x t ho base e i z 1 bytes ht hi hz hsize hby hzs dZc v n xs hs hown ad m c (L.map (Value.int .u8)) hx (by rw [List.length_map,hst.1];omega) ?_ (jy L) h63 hbytes hbase (fun v' w' h1 h2 _=>h v' w' h1 h2);intro j u hj;have hjm:j<m:=by
    have:=(List.getElem?_eq_some_iff.1 hj).1;rw [List.length_map,hst.1] at this;exact this
   obtain ⟨b,off,e,_,hcell⟩:=hst.2.2 oZm;injection e with e;subst e;exact Bys.src hst.1 hcell j u hj
structure PFil (w W0:World) (C:Array Value) (R0 R1:List Int) (t u:Nat) (L:Nat→Bool) (y:Nat→Value) (wx:World):Prop where
 box:Blk wx w.heap.size C 55
 bel:Below w.heap.size w wx
 a:L 1=false→wx=W0
 b:L 1=true→L 4=false→RB w wx C (y t) R0
 c:L 4=true→RB w wx C (y u) R1
 d:L 5=true→y 22=y u
def ql:Value→Nat
 | .int _ z=>z.toNat
 | _=>0
theorem eZ {n:Nat} (y:Nat→Value) {t:Nat} (h:t<n):(af n y).getD t undef=y t:=by
 rw [Array.getD_eq_getD_getElem?,aS n y t h];rfl
theorem gQ {P:Program} {c:Code} {Q:Exit→Act→World→Prop} {a:Act} {w:World} (n s:Nat) (I:Nat→Act→World→Prop) (hn:∀k a w,I k a w→k≤n) (hs:∀k a w,I k a w→ql (a.tmps.getD s undef)=k) (h0:I 0 a w)
 (round:∀k a w,I k a w→∀K:Act→World→Prop,(∀a' w',I (k+1) a' w'→K a' w')→c.wp P (Exit.then K Q) a w):(Code.loop c).wp P Q a w:=
 wp_loop (fun a w=>∃k,I k a w) (fun a _=>n-ql (a.tmps.getD s undef)) ⟨0,h0⟩ (fun a w ⟨k,h⟩=>round k a w h _ (fun a' w' h'=>⟨⟨_,h'⟩,by
  have h1:=hs _ _ _ h';have h2:=hs _ _ _ h;have h3:=hn _ _ _ h';show n-ql (a'.tmps.getD s undef)<n-ql (a.tmps.getD s undef);omega⟩))
def lenV:Value→Nat
 | .slice _ l _=>l
 | _=>0
end Go.Proofs.YtclgbdfkdbbinaaGreat
