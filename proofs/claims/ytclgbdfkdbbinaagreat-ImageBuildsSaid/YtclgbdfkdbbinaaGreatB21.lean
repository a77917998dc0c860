/-
  What is proved here: words and contracts, a part of those that the statement rests on (B21).
  Conditions: none but that the arguments are values of their types.
-/
import Derived.Test.YtclgbdfkdbbinaaGreatB0
import Derived.Test.YtclgbdfkdbbinaaGreatB20
import Derived.Test.YtclgbdfkdbbinaaGreatB1
import Derived.Test.YtclgbdfkdbbinaaGreatB18
import Derived.Test.YtclgbdfkdbbinaaGreatB12
import Derived.Test.YtclgbdfkdbbinaaGreatB5
import Derived.Deep.Cut
import Derived.Deep.DeepCutAuto
import Derived.BigQuiet
import Derived.Deep.QuietTactic
set_option linter.unusedVariables false
set_option linter.unusedSimpArgs false
set_option maxRecDepth 100000
set_option maxHeartbeats 12800000
namespace Go.Proofs.YtclgbdfkdbbinaaGreat
open Go.RowKit
theorem mn {A:List Int} {m p k:Nat} (x:Int) (hp:A.length=p):gp (A++List.replicate m 0) p x k=(A++ai x k)++List.replicate (m-k) 0:=by
 subst hp;unfold gp;rw [List.take_left,List.drop_append];rw [List.drop_eq_nil_of_le oZm,List.nil_append,Nat.add_sub_cancel_left,List.drop_replicate,List.append_assoc]
structure Wr (w:World) (base gb ga:Nat) (A:List Int):Prop where
 box:∃h,Blk w gb #[.slice (some ⟨h,0,none⟩) 24 24] 22∧h≠gb∧h≠ga∧w.ownsRow base 5 1 (.slice (some ⟨h,0,none⟩) 24 24) 24 ((A++List.replicate (24-A.length) 0).map (Value.int .u8))
 at':Blk w ga #[.int .u64 A.length] 24
 bd:∀n∈A,0≤n∧n≤255
 le:A.length≤24
theorem fQ (base gb ga:Nat) (A:List Int) (x:Int) (n:Nat) (w:World) (h:Wr w base gb ga A) (hb0:base≤gb) (ha0:base≤ga) (hne:gb≠ga) (hn:n=1∨n=2∨n=4∨n=8) (hs:A.length+n≤24) (x0:0≤x) (x1:x≤18446744073709551615) :
 Calls Tryz.prog 128 #[.int .u64 x,.int .i64 n,.pointer (some ⟨gb,0,none⟩),.pointer (some ⟨ga,0,none⟩)] w fun r w'=>r=.returned (.tuple #[])∧Wr w' base gb ga (A++ai x n)∧Below base w w':=by
 obtain ⟨⟨g,hbox,hg1,hg2,hown⟩,hat,hbd,hle⟩:=h;have hbd2:∀n∈A++List.replicate (24-A.length) 0,0≤n∧n≤255:=by
  intro n hn;rcases List.mem_append.1 hn with h1 | h1
  ·exact hbd n h1
  ·rw [List.eq_of_mem_replicate h1];decide
 have hlb:=hbox.lt;have hla:=hat.lt;have hset:=kC w.heap.size (some ⟨g,0,none⟩) 24 24 _ A.length n x w (Bys.own hbd2 hown) (lZr _) hn dZc hs x0 x1;rw [mn x rfl] at hset;have HS:=hZz hset;have HBX:=hZz hbox;have HAT:=hZz hat;have HBD:Hid (∀m∈A++ai x n,0≤m∧m≤255):=hZz (by
  intro m hm;rcases List.mem_append.1 hm with h1 | h1
  ·exact hbd m h1
  ·exact bE x n m h1)
 have HL:Hid ((A++ai x n).length=A.length+n):=hZz (by rw [lZa,ay]);have hn8:(n:Int)≤8:=by omega
 have hAl:(A.length:Int)≤24:=by omega
 have hc1:=hbox.cell 0;have hc2:=hat.cell 0;have HNE:=hZz hne;generalize A.length=p at *;clear hset hbox hat hown hbd hbd2 hn;go_enter Tryz.func128,Tryz.ntmps128
 go_wp2_with fail;refine HS.out.mono ?_;rintro r w1 ⟨rfl,hown,hbel⟩;have hbx1:=HBX.out.below hbel hlb;have hat1:=HAT.out.below hbel hla;have hsz:=hbel.size;have c1:w1.cell? ⟨gb,0,none⟩=some (.slice (some ⟨g,0,none⟩) 24 24):=hbx1.cell 0;have f1:w1.frozen? ⟨gb,0,none⟩=false:=hbx1.frozen 0;have hbx2:=hbx1.set 0 (.slice (some ⟨w.heap.size,0,none⟩) 24 24);have hat2:=hat1.setOther (a:=⟨gb,0,none⟩) (Ne.symm HNE.out) (.slice (some ⟨w.heap.size,0,none⟩) 24 24);have hown2:=ownsRow_setCell_below hown (a:=⟨gb,0,none⟩) hlb (.slice (some ⟨w.heap.size,0,none⟩) 24 24);have hb2:Below base w (w1.setCell ⟨gb,0,none⟩ (.slice (some ⟨w.heap.size,0,none⟩) 24 24)):=(hbel.mono oZm).setCell hb0 _;have c3:(w1.setCell ⟨gb,0,none⟩ (.slice (some ⟨w.heap.size,0,none⟩) 24 24)).cell? ⟨ga,0,none⟩=some (.int .u64 p):=hat2.cell 0;have f3:(w1.setCell ⟨gb,0,none⟩ (.slice (some ⟨w.heap.size,0,none⟩) 24 24)).frozen? ⟨ga,0,none⟩=false:=hat2.frozen 0;have hbx3:=hbx2.setOther (a:=⟨ga,0,none⟩) HNE.out (.int .u64 ((p:Int)+n));have hat3:=hat2.set 0 (.int .u64 ((p:Int)+n));have hown3:=ownsRow_setCell_below hown2 (a:=⟨ga,0,none⟩) hla (.int .u64 ((p:Int)+n));have hb3:=hb2.setCell (p:=⟨ga,0,none⟩) ha0 (.int .u64 ((p:Int)+n));have HX:=hZz hbx3;have HA:=hZz hat3;have HO:=hZz hown3;have HB:=hZz hb3;clear hbx3 hat3 hown3 hb3 hbx2 hat2 hown2 hb2 hbx1 hat1 hown hbel;go_wp2;go_end0
 refine ⟨rfl,⟨⟨w.heap.size,HX.out,by omega,by omega,?_⟩,?_,HBD.out,by rw [HL.out];exact hs⟩,HB.out⟩
 ·have e:(24-(A++ai x n).length)=24-p-n:=by rw [HL.out];omega
  rw [e];exact bL HO.out oZm
 ·have e:((A++ai x n).length:Int)=(p:Int)+n:=by rw [HL.out];omega
  rw [e];exact HA.out
theorem nU {x:Int} (h0:0≤x) (h1:x≤255):ai x 1=[x]:=by
 have:x % 256=x:=by omega
 simp [ai,this]
theorem oQ {na inf ot se va si:Int} (b0:0≤inf) (b1:inf≤255) (c0:0≤ot) (c1:ot≤255) :
 []++ai na 4++ai inf 1++ai ot 1++ai se 2++ai va 8++ai si 8=bq ⟨na,inf,ot,se,va,si⟩:=by
 rw [nU b0 b1,nU c0 c1];simp [bq]
theorem vr (s:Sy) (w:World) (h:s.Ok) :
 Calls Tryz.prog 76 #[s.val] w fun r w'=>(∃u,r=.returned u∧qg (bq s) u w')∧Below w.heap.size w w':=by
 obtain ⟨i0,hi,hz0,hz1,hz2⟩:=info_parts aM;have HI:=hZz hi;have HZ0:=hZz hz0;have HZ1:=hZz hz1;have HZ2:=hZz hz2;have HEL:=hZz (cA s);have HEB:=hZz (eA h);obtain ⟨⟨a0,a1⟩,⟨b0,b1⟩,⟨c0,c1⟩,⟨d0,d1⟩,⟨e0,e1⟩,⟨f0,f1⟩⟩:=h;obtain ⟨na,inf,ot,se,va,si⟩:=s;simp only at a0 a1 b0 b1 c0 c1 d0 d1 e0 e1 f0 f1;have HP:=hZz (oQ (na:=na) (se:=se) (va:=va) (si:=si) b0 b1 c0 c1);generalize bq ⟨na,inf,ot,se,va,si⟩=zs at HEL HEB HP⊢;clear hi hz0 hz1 hz2;unfold Sy.val;simp only
 go_enter Tryz.func76,Tryz.ntmps76
 go_wp2_with (at_make;refine wpList_make_full _ rfl _ _ 22 rfl (w.heap.size+1) 5 i0 (.int .u8 0) 1 Tryz.underlying22 HI.out HZ0.out HZ1.out .i64 .i64 _ _ 24 rfl rfl rfl rfl ?c1 ?c2 ?c3 ?_);case c1=>rw [HZ2.out];omega
 case c2=>unfold maxLen;omega
 case c3=>simp
 intro w1 hown hg;have hb1:Below w.heap.size w w1:=((Below.refl _ _).alloc (lZr _) _).grown hg (by simp) (fun _ e=>by cases e);have hbox:=Sy.cs ((Blk.new w #[.int .u32 na,.int .u8 inf,.int .u8 ot,.int .u16 se,.int .u64 va,.int .u64 si] 76).grown hg (by simp));obtain ⟨q0,q1,q2,q3,q4,q5⟩:=hbox;have hsz1:w.heap.size+1<w1.heap.size:=by
  obtain ⟨-,⟨hv,_⟩ | ⟨g',cap,cur,hv,_,hgg,_⟩⟩:=hown
  ·cases hv
  ·injection hv with hv _ _;injection hv with hv;injection hv with hv;rw [←hv] at hgg;exact (Array.getElem?_eq_some_iff.1 hgg).1
 have hlt:w.heap.size<w1.heap.size:=by omega
 have Q0:∀o o',((w1.alloc o).alloc o').cell? ⟨w.heap.size,0,none⟩=some (.int .u32 na):=fun o o'=>by rw [World.cell?_alloc_past _ _ _ (by simp;omega),World.cell?_alloc_past _ _ _ (by simpa using hlt)];exact q0
 have HQ:Hid (∀w',Below (w.heap.size+1) w1 w'→w'.cell? ⟨w.heap.size,1,none⟩=some (.int .u8 inf)∧w'.cell? ⟨w.heap.size,2,none⟩=some (.int .u8 ot)∧w'.cell? ⟨w.heap.size,3,none⟩=some (.int .u16 se)∧w'.cell? ⟨w.heap.size,4,none⟩=some (.int .u64 va)∧w'.cell? ⟨w.heap.size,5,none⟩=some (.int .u64 si)):=hZz (fun w' h=>⟨(h.cell (Nat.lt_succ_self _)).trans q1,(h.cell (Nat.lt_succ_self _)).trans q2,(h.cell (Nat.lt_succ_self _)).trans q3,(h.cell (Nat.lt_succ_self _)).trans q4,(h.cell (Nat.lt_succ_self _)).trans q5⟩);have hne:w1.heap.size≠w1.heap.size+1:=by omega
 have HW0:Hid (Wr ((w1.alloc (.cells #[.slice (some ⟨w.heap.size+1,0,none⟩) 24 24] 22)).alloc (.cells #[.int .u64 0] 24)) (w.heap.size+1) w1.heap.size (w1.heap.size+1) []):=hZz (by
  rw [toList_madeCells_one] at hown;refine ⟨⟨w.heap.size+1,(Blk.new w1 _ _).alloc _,by omega,by omega,?_⟩,?_,fun n hn=>(by cases hn),by decide⟩
  ·have e:([]++List.replicate (24-([]:List Int).length) (0:Int)).map (Value.int .u8)=List.replicate 24 (.int .u8 0):=by simp
   rw [e];exact (hown.alloc _).alloc _
  ·have:=Blk.new (w1.alloc (.cells #[.slice (some ⟨w.heap.size+1,0,none⟩) 24 24] 22)) #[.int .u64 0] 24;rw [World.size_alloc] at this;exact this)
 have HB1:Hid (∀o o',Below (w.heap.size+1) w1 ((w1.alloc o).alloc o')):=hZz (fun o o'=>((Below.refl _ _).alloc oZm _).alloc (by simp;omega) _);have HBW:=hZz hb1;clear hown hg hb1 q0 q1 q2 q3 q4 q5;go_wp2_with fail;refine (fQ (w.heap.size+1) w1.heap.size (w1.heap.size+1) _ na 4 _ HW0.out oZm oZm hne dZc dZc a0 oZm).mono ?_;rintro r2 w2 ⟨rfl,hw,hb⟩;have HW2:=hZz hw;have HB2:=hZz (Below.trans (HB1.out _ _) hb);have hl1:Hid (([]++ai na 4:List Int).length=4):=hZz (by simp [ay]);have hq:=(HQ.out _ HB2.out).1;clear hw hb;go_wp2_with fail;refine (fQ (w.heap.size+1) w1.heap.size (w1.heap.size+1) _ inf 1 _ HW2.out oZm oZm hne dZc (by rw [hl1.out];decide) b0 oZm).mono ?_;rintro r3 w3 ⟨rfl,hw,hb⟩;have HW3:=hZz hw;have HB3:=hZz (Below.trans HB2.out hb);have hl2:Hid (([]++ai na 4++ai inf 1:List Int).length=5):=hZz (by simp [ay]);have hq:=(HQ.out _ HB3.out).2.1;clear hw hb;go_wp2_with fail;refine (fQ (w.heap.size+1) w1.heap.size (w1.heap.size+1) _ ot 1 _ HW3.out oZm oZm hne dZc (by rw [hl2.out];decide) c0 oZm).mono ?_;rintro r4 w4 ⟨rfl,hw,hb⟩;have HW4:=hZz hw;have HB4:=hZz (Below.trans HB3.out hb);have hl3:Hid (([]++ai na 4++ai inf 1++ai ot 1:List Int).length=6):=hZz (by simp [ay]);have hq:=(HQ.out _ HB4.out).2.2.1;clear hw hb;go_wp2_with fail;refine (fQ (w.heap.size+1) w1.heap.size (w1.heap.size+1) _ se 2 _ HW4.out oZm oZm hne dZc (by rw [hl3.out];decide) d0 oZm).mono ?_;rintro r5 w5 ⟨rfl,hw,hb⟩;have HW5:=hZz hw;have HB5:=hZz (Below.trans HB4.out hb);have hl4:Hid (([]++ai na 4++ai inf 1++ai ot 1++ai se 2:List Int).length=8):=hZz (by simp [ay]);have hq:=(HQ.out _ HB5.out).2.2.2.1;clear hw hb;go_wp2_with fail;refine (fQ (w.heap.size+1) w1.heap.size (w1.heap.size+1) _ va 8 _ HW5.out oZm oZm hne dZc (by rw [hl4.out];decide) e0 oZm).mono ?_;rintro r6 w6 ⟨rfl,hw,hb⟩;have HW6:=hZz hw;have HB6:=hZz (Below.trans HB5.out hb);have hl5:Hid (([]++ai na 4++ai inf 1++ai ot 1++ai se 2++ai va 8:List Int).length=16):=hZz (by simp [ay]);have hq:=(HQ.out _ HB6.out).2.2.2.2;clear hw hb;go_wp2_with fail;refine (fQ (w.heap.size+1) w1.heap.size (w1.heap.size+1) _ si 8 _ HW6.out oZm oZm hne dZc (by rw [hl5.out];decide) f0 oZm).mono ?_;rintro r7 w7 ⟨rfl,hw,hb⟩;have HW7:=hZz hw;have HB7:=hZz (Below.trans HB6.out hb);have hl6:Hid (([]++ai na 4++ai inf 1++ai ot 1++ai se 2++ai va 8++ai si 8:List Int).length=24):=hZz (by simp [ay]);clear hw hb;obtain ⟨⟨g,hx,-,-,hown⟩,-,-,-⟩:=HW7.out;rw [HP.out,HEL.out,Nat.sub_self,List.replicate_zero,List.append_nil] at hown;have hx0:w7.cell? ⟨w1.heap.size,0,none⟩=some (.slice (some ⟨g,0,none⟩) 24 24):=hx.cell 0;have HO:=hZz hown;clear hown hx;go_wp2;go_ret;exact ⟨⟨_,rfl,oe (by rw [HEL.out];exact HO.out) (by rw [HEL.out];decide) HEB.out⟩,HBW.out.trans (HB7.out.mono oZm)⟩
theorem uw {L:List Sg} {q:Nat} (h:q<L.length):(L.take (q+1)).flatMap bH=(L.take q).flatMap bH++bH (L.getD q sg0):=by
 rw [List.take_succ_eq_append_getElem h,List.flatMap_append,gZe,gZg h];simp
theorem tw (B:Nat) (a:Option Addr) (len cap:Nat) (L:List Sg) (w:World) (hs:Sgs w B a len L) (hB:B≤w.heap.size) (hl:len≤1000000) :
 Calls Tryz.prog 72 #[.slice a len cap,.func (.func 73) #[] #[]] w fun r w'=>(∃u,r=.returned u∧w'.ownsRow w.heap.size 5 1 u (L.flatMap bH).length ((L.flatMap bH).map (Value.int .u8)))∧Below w.heap.size w w':=by
 obtain ⟨i0,hi,hz0,hz1,hz2⟩:=info_parts aM;have HI:=hZz hi;have HZ0:=hZz hz0;have HZ1:=hZz hz1;have HZ2:=hZz hz2;have HS:=hZz hs;have HLN:=hZz hs.hl;have hli:(len:Int)≤1000000:=by omega
 clear hi hz0 hz1 hz2 hs;go_enter Tryz.func72,Tryz.ntmps72
 go_wp2;go_loopw [5,10] (fun b i wr=>∃(q:Nat) (zs:List Int),q≤len∧i=.int .i64 q∧zs=(L.take q).flatMap bH∧zs.length≤56*q∧wr.ownsRow w.heap.size 5 1 b zs.length (zs.map (Value.int .u8))∧Below w.heap.size w wr) (fun _ i _=>len-(intOf i).toNat)
 case atStart=>exact ⟨0,[],Nat.zero_le _,rfl,by simp,Nat.zero_le _,World.ownsRow_nil _ _ _ _,Below.refl _ _⟩
 case round=>
  obtain ⟨q,zs,hq,rfl,hzs,hzl,hown,hbel⟩:=hrel;have HZL:=hZz hzl;have HO:=hZz hown;have HB:=hZz hbel;have hsz:=hbel.size;obtain ⟨ba,bc,rfl⟩:=bF hown;clear hown hzl;by_cases hlt:q<len
  ·obtain ⟨sb,so,rfl,hsB,hsc⟩:=HS.out.hc oZm;obtain ⟨c0,c1,c2,c3,c4,c5,c6⟩:=(hsc q hlt).below hbel (Nat.lt_of_lt_of_le hsB hB);have hsok:=HS.out.okAt hlt;have hsb:sb<wr.heap.size:=by omega
   have hqi:(q:Int)<len:=by omega
   have HZS:Hid ((L.take (q+1)).flatMap bH=zs++bH (L.getD q sg0)):=hZz (by rw [hzs];exact uw (by rw [HLN.out];exact hlt));clear hsc hbel hzs;generalize L.getD q sg0=s at c0 c1 c2 c3 c4 c5 c6 hsok HZS;have HCL:=hZz (fun w1=>qJ s w1 hsok);have HEL:=hZz (bB s);obtain ⟨x0,x1,x2,x3,x4,x5,x6⟩:=s;unfold Sg.val at HCL;simp only at c0 c1 c2 c3 c4 c5 c6 HCL;obtain ⟨E,hE⟩:∃E,bH ⟨x0,x1,x2,x3,x4,x5,x6⟩=E:=⟨_,rfl⟩
   rw [hE] at HCL HZS HEL;clear hsok hE;have HBA:Hid (Below w.heap.size w (wr.alloc (.cells #[.int .u32 x0,.int .u32 x1,.int .u64 x2,.int .u64 x3,.int .u64 x4,.int .u64 x5,.int .u64 x6] 65))):=hZz (HB.out.alloc hsz _);have HOA:=hZz (own_below HO.out ((Below.refl _ _).alloc (lZr _) (.cells #[.int .u32 x0,.int .u32 x1,.int .u64 x2,.int .u64 x3,.int .u64 x4,.int .u64 x5,.int .u64 x6] 65)));go_wp2_with fail;refine (HCL.out _).mono ?_;rintro r w2 ⟨⟨u,rfl,ug,uc,rfl,hu1,hu2,hu3⟩,hb2⟩;have HU:=hZz hu3;have HB2:=hZz (HBA.out.trans (hb2.mono HBA.out.size));have HO2:=hZz (own_below HOA.out hb2);have hw2:=HB2.out.size;have HEN:Hid (E.length=56):=HEL;clear hu3 hb2;go_wp2_with (at_builtin;refine ag rfl _ _ 22 rfl w.heap.size 5 i0 (.int .u8 0) 1 Tryz.underlying22 HI.out HZ0.out HZ1.out HZ2.out rfl _ zs.length _ rfl HO2.out _ E.length uc _ E rfl HU.out (fun e=>by cases e) ?e1 ?e2 ?e3 ?_);case e1=>have:=HZL.out;have:=HEN.out;unfold maxLen;omega
   case e2=>have:=HZL.out;have:=HEN.out;omega
   case e3=>exact hw2
   intro v3 w3 hown3 hg3;have HO3:Hid (w3.ownsRow w.heap.size 5 1 v3 (zs++E).length ((zs++E).map (Value.int .u8))):=hZz (by rw [lZa,List.map_append];exact hown3);have HB3:Hid (Below w.heap.size w w3):=hZz (HB2.out.grown hg3 hw2 (fun q e=>(HO2.out.lt q e).1));clear hown3 hg3;go_wp2;go_roundw
   case rel=>exact ⟨q+1,zs++E,by omega,by go_num,HZS.out.symm,by have:=HZL.out;have:=HEN.out;rw [lZa];omega,HO3.out,HB3.out⟩
   case measure=>(simp [intOf]<;>omega)
  ·obtain rfl:q=len:=by omega
   have HF:Hid (zs=L.flatMap bH):=hZz (by rw [hzs,List.take_of_length_le (by rw [HLN.out];exact lZr _)]);clear hbel hzs;go_wp2;go_ret;exact ⟨⟨_,rfl,by rw [←HF.out];exact HO.out⟩,HB.out⟩
theorem tY {L:List Sy} {q:Nat} (h:q<L.length):(L.take (q+1)).flatMap bq=(L.take q).flatMap bq++bq (L.getD q Sy.zero):=by
 rw [List.take_succ_eq_append_getElem h,List.flatMap_append,gZe,gZg h];simp
theorem un (B:Nat) (a:Option Addr) (len cap:Nat) (L:List Sy) (w:World) (hs:Sy.Sl w B a len L) (hB:B≤w.heap.size) (hl:len≤1000000) :
 Calls Tryz.prog 74 #[.slice a len cap,.func (.func 76) #[] #[]] w fun r w'=>(∃u,r=.returned u∧w'.ownsRow w.heap.size 5 1 u (L.flatMap bq).length ((L.flatMap bq).map (Value.int .u8)))∧Below w.heap.size w w':=by
 obtain ⟨i0,hi,hz0,hz1,hz2⟩:=info_parts aM;have HI:=hZz hi;have HZ0:=hZz hz0;have HZ1:=hZz hz1;have HZ2:=hZz hz2;have HS:=hZz hs;have HLN:=hZz hs.hl;have hli:(len:Int)≤1000000:=by omega
 clear hi hz0 hz1 hz2 hs;go_enter Tryz.func74,Tryz.ntmps74
 go_wp2;go_loopw [5,10] (fun b i wr=>∃(q:Nat) (zs:List Int),q≤len∧i=.int .i64 q∧zs=(L.take q).flatMap bq∧zs.length≤24*q∧wr.ownsRow w.heap.size 5 1 b zs.length (zs.map (Value.int .u8))∧Below w.heap.size w wr) (fun _ i _=>len-(intOf i).toNat)
 case atStart=>exact ⟨0,[],Nat.zero_le _,rfl,by simp,Nat.zero_le _,World.ownsRow_nil _ _ _ _,Below.refl _ _⟩
 case round=>
  obtain ⟨q,zs,hq,rfl,hzs,hzl,hown,hbel⟩:=hrel;have HZL:=hZz hzl;have HO:=hZz hown;have HB:=hZz hbel;have hsz:=hbel.size;obtain ⟨ba,bc,rfl⟩:=bF hown;clear hown hzl;by_cases hlt:q<len
  ·obtain ⟨sb,so,rfl,hsB,hsc⟩:=HS.out.hc oZm;obtain ⟨c0,c1,c2,c3,c4,c5⟩:=(hsc q hlt).below hbel (Nat.lt_of_lt_of_le hsB hB);have hsok:=HS.out.okAt hlt;have hsb:sb<wr.heap.size:=by omega
   have hqi:(q:Int)<len:=by omega
   have HZS:Hid ((L.take (q+1)).flatMap bq=zs++bq (L.getD q Sy.zero)):=hZz (by rw [hzs];exact tY (by rw [HLN.out];exact hlt));clear hsc hbel hzs;generalize L.getD q Sy.zero=s at c0 c1 c2 c3 c4 c5 hsok HZS;have HCL:=hZz (fun w1=>vr s w1 hsok);have HEL:=hZz (cA s);obtain ⟨x0,x1,x2,x3,x4,x5⟩:=s;unfold Sy.val at HCL;simp only at c0 c1 c2 c3 c4 c5 HCL;obtain ⟨E,hE⟩:∃E,bq ⟨x0,x1,x2,x3,x4,x5⟩=E:=⟨_,rfl⟩
   rw [hE] at HCL HZS HEL;clear hsok hE;have HBA:Hid (Below w.heap.size w (wr.alloc (.cells #[.int .u32 x0,.int .u8 x1,.int .u8 x2,.int .u16 x3,.int .u64 x4,.int .u64 x5] 76))):=hZz (HB.out.alloc hsz _);have HOA:=hZz (own_below HO.out ((Below.refl _ _).alloc (lZr _) (.cells #[.int .u32 x0,.int .u8 x1,.int .u8 x2,.int .u16 x3,.int .u64 x4,.int .u64 x5] 76)));go_wp2_with fail;refine (HCL.out _).mono ?_;rintro r w2 ⟨⟨u,rfl,ug,uc,rfl,hu1,hu2,hu3⟩,hb2⟩;have HU:=hZz hu3;have HB2:=hZz (HBA.out.trans (hb2.mono HBA.out.size));have HO2:=hZz (own_below HOA.out hb2);have hw2:=HB2.out.size;have HEN:Hid (E.length=24):=HEL;clear hu3 hb2;go_wp2_with (at_builtin;refine ag rfl _ _ 22 rfl w.heap.size 5 i0 (.int .u8 0) 1 Tryz.underlying22 HI.out HZ0.out HZ1.out HZ2.out rfl _ zs.length _ rfl HO2.out _ E.length uc _ E rfl HU.out (fun e=>by cases e) ?e1 ?e2 ?e3 ?_);case e1=>have:=HZL.out;have:=HEN.out;unfold maxLen;omega
   case e2=>have:=HZL.out;have:=HEN.out;omega
   case e3=>exact hw2
   intro v3 w3 hown3 hg3;have HO3:Hid (w3.ownsRow w.heap.size 5 1 v3 (zs++E).length ((zs++E).map (Value.int .u8))):=hZz (by rw [lZa,List.map_append];exact hown3);have HB3:Hid (Below w.heap.size w w3):=hZz (HB2.out.grown hg3 hw2 (fun q e=>(HO2.out.lt q e).1));clear hown3 hg3;go_wp2;go_roundw
   case rel=>exact ⟨q+1,zs++E,by omega,by go_num,HZS.out.symm,by have:=HZL.out;have:=HEN.out;rw [lZa];omega,HO3.out,HB3.out⟩
   case measure=>(simp [intOf]<;>omega)
  ·obtain rfl:q=len:=by omega
   have HF:Hid (zs=L.flatMap bq):=hZz (by rw [hzs,List.take_of_length_le (by rw [HLN.out];exact lZr _)]);clear hbel hzs;go_wp2;go_ret;exact ⟨⟨_,rfl,by rw [←HF.out];exact HO.out⟩,HB.out⟩
theorem sP {L:List Rl} {q:Nat} (h:q<L.length):(L.take (q+1)).flatMap bP=(L.take q).flatMap bP++bP (L.getD q Rl.zero):=by
 rw [List.take_succ_eq_append_getElem h,List.flatMap_append,gZe,gZg h];simp
theorem tG (B:Nat) (a:Option Addr) (len cap:Nat) (L:List Rl) (w:World) (hs:Rl.Sl w B a len L) (hB:B≤w.heap.size) (hl:len≤1000000) :
 Calls Tryz.prog 77 #[.slice a len cap,.func (.func 79) #[] #[]] w fun r w'=>(∃u,r=.returned u∧w'.ownsRow w.heap.size 5 1 u (L.flatMap bP).length ((L.flatMap bP).map (Value.int .u8)))∧Below w.heap.size w w':=by
 obtain ⟨i0,hi,hz0,hz1,hz2⟩:=info_parts aM;have HI:=hZz hi;have HZ0:=hZz hz0;have HZ1:=hZz hz1;have HZ2:=hZz hz2;have HS:=hZz hs;have HLN:=hZz hs.hl;have hli:(len:Int)≤1000000:=by omega
 clear hi hz0 hz1 hz2 hs;go_enter Tryz.func77,Tryz.ntmps77
 go_wp2;go_loopw [5,10] (fun b i wr=>∃(q:Nat) (zs:List Int),q≤len∧i=.int .i64 q∧zs=(L.take q).flatMap bP∧zs.length≤24*q∧wr.ownsRow w.heap.size 5 1 b zs.length (zs.map (Value.int .u8))∧Below w.heap.size w wr) (fun _ i _=>len-(intOf i).toNat)
 case atStart=>exact ⟨0,[],Nat.zero_le _,rfl,by simp,Nat.zero_le _,World.ownsRow_nil _ _ _ _,Below.refl _ _⟩
 case round=>
  obtain ⟨q,zs,hq,rfl,hzs,hzl,hown,hbel⟩:=hrel;have HZL:=hZz hzl;have HO:=hZz hown;have HB:=hZz hbel;have hsz:=hbel.size;obtain ⟨ba,bc,rfl⟩:=bF hown;clear hown hzl;by_cases hlt:q<len
  ·obtain ⟨sb,so,rfl,hsB,hsc⟩:=HS.out.hc oZm;obtain ⟨c0,c1,c2,c3⟩:=(hsc q hlt).below hbel (Nat.lt_of_lt_of_le hsB hB);have hsok:=HS.out.okAt hlt;have hsb:sb<wr.heap.size:=by omega
   have hqi:(q:Int)<len:=by omega
   have HZS:Hid ((L.take (q+1)).flatMap bP=zs++bP (L.getD q Rl.zero)):=hZz (by rw [hzs];exact sP (by rw [HLN.out];exact hlt));clear hsc hbel hzs;generalize L.getD q Rl.zero=s at c0 c1 c2 c3 hsok HZS;have HCL:=hZz (fun w1=>vn s w1 hsok);have HEL:=hZz (dW s);obtain ⟨x0,x1,x2,x3⟩:=s;unfold Rl.val at HCL;simp only at c0 c1 c2 c3 HCL;obtain ⟨E,hE⟩:∃E,bP ⟨x0,x1,x2,x3⟩=E:=⟨_,rfl⟩
   rw [hE] at HCL HZS HEL;clear hsok hE;have HBA:Hid (Below w.heap.size w (wr.alloc (.cells #[.int .u64 x0,.int .u32 x1,.int .u32 x2,.int .i64 x3] 78))):=hZz (HB.out.alloc hsz _);have HOA:=hZz (own_below HO.out ((Below.refl _ _).alloc (lZr _) (.cells #[.int .u64 x0,.int .u32 x1,.int .u32 x2,.int .i64 x3] 78)));go_wp2_with fail;refine (HCL.out _).mono ?_;rintro r w2 ⟨⟨u,rfl,ug,uc,rfl,hu1,hu2,hu3⟩,hb2⟩;have HU:=hZz hu3;have HB2:=hZz (HBA.out.trans (hb2.mono HBA.out.size));have HO2:=hZz (own_below HOA.out hb2);have hw2:=HB2.out.size;have HEN:Hid (E.length=24):=HEL;clear hu3 hb2;go_wp2_with (at_builtin;refine ag rfl _ _ 22 rfl w.heap.size 5 i0 (.int .u8 0) 1 Tryz.underlying22 HI.out HZ0.out HZ1.out HZ2.out rfl _ zs.length _ rfl HO2.out _ E.length uc _ E rfl HU.out (fun e=>by cases e) ?e1 ?e2 ?e3 ?_);case e1=>have:=HZL.out;have:=HEN.out;unfold maxLen;omega
   case e2=>have:=HZL.out;have:=HEN.out;omega
   case e3=>exact hw2
   intro v3 w3 hown3 hg3;have HO3:Hid (w3.ownsRow w.heap.size 5 1 v3 (zs++E).length ((zs++E).map (Value.int .u8))):=hZz (by rw [lZa,List.map_append];exact hown3);have HB3:Hid (Below w.heap.size w w3):=hZz (HB2.out.grown hg3 hw2 (fun q e=>(HO2.out.lt q e).1));clear hown3 hg3;go_wp2;go_roundw
   case rel=>exact ⟨q+1,zs++E,by omega,by go_num,HZS.out.symm,by have:=HZL.out;have:=HEN.out;rw [lZa];omega,HO3.out,HB3.out⟩
   case measure=>(simp [intOf]<;>omega)
  ·obtain rfl:q=len:=by omega
   have HF:Hid (zs=L.flatMap bP):=hZz (by rw [hzs,List.take_of_length_le (by rw [HLN.out];exact lZr _)]);clear hbel hzs;go_wp2;go_ret;exact ⟨⟨_,rfl,by rw [←HF.out];exact HO.out⟩,HB.out⟩
theorem jo (b:Bm) (k:Nat):(fG b k).length=k:=by simp [fG]
theorem oz (b:Bm) (k:Nat):fG b (k+1)=fG b k++[jQ b.i (b.m.df.getD k Df.zero) (b.pd.getD k 0)]:=by simp [fG,List.range_succ]
theorem qM (B:Nat) (x:Bu) (b:Bm) (w:World) (h:x.Is w B b) (hB:B≤w.heap.size) (hl:b.m.df.length≤1000000) (hpl:b.m.df.length≤b.pd.length) :
 Calls Tryz.prog 75 #[x.val] w fun r w'=>(∃u,r=.returned u∧w'.ownsRow w.heap.size 76 6 u (fI b).length (Sy.flat (fI b)))∧Below w.heap.size w w':=by
 obtain ⟨i0,hI,hz0,hz1,hz2⟩:=info_parts nE;have HI:=hZz hI;have HZ0:=hZz hz0;have HZ1:=hZz hz1;have HZ2:=hZz hz2;clear hI hz0 hz1 hz2;have HX:=hZz h;have HDF:=hZz h.s.df;have HPD:=hZz h.pd;have HAO:=hZz h.ok;have hdl:x.s.df.n=b.m.df.length:=h.s.df.hl.symm;have hpn:x.pd.n=b.pd.length:=h.pd.hl.symm;have hie:=h.i;have HAD0:=hZz (fun wh of w1 o0 o1=>lU x wh of w1 h.ok o0 o1);unfold fI;obtain ⟨⟨k,so,⟨nda,ndn,ndc⟩,en,⟨coa,con,coc⟩,⟨daa,dan,dac⟩,bz,⟨tla,tln,tlc⟩,tz,⟨dfa,dfn,dfc⟩,⟨fxa,fxn,fxc⟩⟩,⟨tba,tbn,tbc⟩,⟨pda,pdn,pdc⟩,⟨pna,pnn,pnc⟩,⟨v0,v1,v2,v3,v4,v5,v6,dy,fr,cp,dp,tp⟩⟩:=x;unfold Bu.val Bu.cells at HAD0;unfold Bu.val;simp only at HDF HPD hdl hpn hie HAD0⊢;have HIE:=hZz hie;rw [hie] at HAD0;clear h hie;rw [←hdl] at hl hpl⊢;rw [←hpn] at hpl;clear hdl hpn;by_cases h0:dfn=0
 ·rw [if_pos h0];have h0i:(dfn:Int)=0:=by omega
  have HB0:Hid (Below w.heap.size w (w.alloc (.cells #[.int .i64 k,.string so,.slice nda ndn ndc,.int .u64 en,.slice coa con coc,.slice daa dan dac,.int .u64 bz,.slice tla tln tlc,.int .u64 tz,.slice dfa dfn dfc,.slice fxa fxn fxc,.slice tba tbn tbc,.slice pda pdn pdc,.slice pna pnn pnc,.int .u64 v0,.int .u64 v1,.int .u64 v2,.int .u64 v3,.int .u64 v4,.int .u64 v5,.int .u64 v6,.int .u64 dy,.int .u64 fr,.int .u64 cp,.int .u64 dp,.int .u64 tp] 84))):=hZz ((Below.refl _ _).alloc (lZr _) _);clear HAD0 h0;go_enter Tryz.func75,Tryz.ntmps75
  go_wp2;go_ret;exact ⟨⟨_,rfl,World.ownsRow_nil _ _ _ _⟩,HB0.out⟩
 ·rw [if_neg h0];obtain ⟨db,doo,rfl,hdB,hdc⟩:=HDF.out.hc oZm;obtain ⟨pb,po,rfl,hpB,hpc⟩:=HPD.out.hc oZm;have hdw:db<w.heap.size:=Nat.lt_of_lt_of_le hdB hB;have hpw:pb<w.heap.size:=Nat.lt_of_lt_of_le hpB hB;have HDC:=hZz hdc;have HPC:=hZz hpc;clear hdc hpc;have hli:(dfn:Int)≤1000000:=by omega
  have h0b:((dfn:Int)==0)=false:=by rw [beq_eq_false_iff_ne];omega
  obtain ⟨C,hC⟩:∃C:Array Value,C=#[.int .i64 k,.string so,.slice nda ndn ndc,.int .u64 en,.slice coa con coc,.slice daa dan dac,.int .u64 bz,.slice tla tln tlc,.int .u64 tz,.slice (some ⟨db,doo,none⟩) dfn dfc,.slice fxa fxn fxc,.slice tba tbn tbc,.slice (some ⟨pb,po,none⟩) pdn pdc,.slice pna pnn pnc,.int .u64 v0,.int .u64 v1,.int .u64 v2,.int .u64 v3,.int .u64 v4,.int .u64 v5,.int .u64 v6,.int .u64 dy,.int .u64 fr,.int .u64 cp,.int .u64 dp,.int .u64 tp]:=⟨_,rfl⟩
  have HCC:Hid (∀wx,Blk wx w.heap.size C 84→Blk wx w.heap.size #[.int .i64 k,.string so,.slice nda ndn ndc,.int .u64 en,.slice coa con coc,.slice daa dan dac,.int .u64 bz,.slice tla tln tlc,.int .u64 tz,.slice (some ⟨db,doo,none⟩) dfn dfc,.slice fxa fxn fxc,.slice tba tbn tbc,.slice (some ⟨pb,po,none⟩) pdn pdc,.slice pna pnn pnc,.int .u64 v0,.int .u64 v1,.int .u64 v2,.int .u64 v3,.int .u64 v4,.int .u64 v5,.int .u64 v6,.int .u64 dy,.int .u64 fr,.int .u64 cp,.int .u64 dp,.int .u64 tp] 84):=hZz (fun wx h=>by rw [←hC];exact h);have HST0:Hid (bm w ((w.alloc (.cells #[.int .i64 k,.string so,.slice nda ndn ndc,.int .u64 en,.slice coa con coc,.slice daa dan dac,.int .u64 bz,.slice tla tln tlc,.int .u64 tz,.slice (some ⟨db,doo,none⟩) dfn dfc,.slice fxa fxn fxc,.slice tba tbn tbc,.slice (some ⟨pb,po,none⟩) pdn pdc,.slice pna pnn pnc,.int .u64 v0,.int .u64 v1,.int .u64 v2,.int .u64 v3,.int .u64 v4,.int .u64 v5,.int .u64 v6,.int .u64 dy,.int .u64 fr,.int .u64 cp,.int .u64 dp,.int .u64 tp] 84)).alloc (.cells #[.int .u32 0,.int .u8 0,.int .u8 0,.int .u16 0,.int .u64 0,.int .u64 0] 76)) C 84 76 6 (.slice (some ⟨w.heap.size+1,0,none⟩) 1 1) 1 (Sy.flat [Sy.zero])):=hZz
   ⟨⟨rfl,.inr ⟨_,_,_,rfl,lZr _,by have:=Blk.new (w.alloc (.cells #[.int .i64 k,.string so,.slice nda ndn ndc,.int .u64 en,.slice coa con coc,.slice daa dan dac,.int .u64 bz,.slice tla tln tlc,.int .u64 tz,.slice (some ⟨db,doo,none⟩) dfn dfc,.slice fxa fxn fxc,.slice tba tbn tbc,.slice (some ⟨pb,po,none⟩) pdn pdc,.slice pna pnn pnc,.int .u64 v0,.int .u64 v1,.int .u64 v2,.int .u64 v3,.int .u64 v4,.int .u64 v5,.int .u64 v6,.int .u64 dy,.int .u64 fr,.int .u64 cp,.int .u64 dp,.int .u64 tp] 84)) #[.int .u32 0,.int .u8 0,.int .u8 0,.int .u16 0,.int .u64 0,.int .u64 0] 76;rw [World.size_alloc] at this;exact this,lZr _,by decide,rfl,rfl⟩⟩,by rw [hC];exact (Blk.new _ _ _).alloc _,((Below.refl _ _).alloc (lZr _) _).alloc (by simp) _⟩
  clear hC h0;go_enter Tryz.func75,Tryz.ntmps75
  go_wp2;go_loopw [3,18] (fun l i wr=>∃q:Nat,q≤dfn∧i=.int .i64 q∧bm w wr C 84 76 6 l (q+1) (Sy.flat (Sy.zero :: fG b q))) (fun _ i _=>dfn-(intOf i).toNat)
  case atStart=>exact ⟨0,Nat.zero_le _,rfl,HST0.out⟩
  case round=>
   obtain ⟨q,hq,rfl,hst⟩:=hrel;have HST:=hZz hst;obtain ⟨la,lc,rfl,-,-⟩:=az hst.own;have hbx:=HCC.out _ hst.box;have hgw:=hst.box.lt;by_cases hlt:q<dfn
   ·have hqi:(q:Int)<dfn:=by omega
    have hqp:q<pdn:=by omega
    have hqpi:(q:Int)<pdn:=by omega
    obtain ⟨c0,c1,c2,c3⟩:=(HDC.out q hlt).below hst.bel hdw;have hdb:db<wr.heap.size:=Nat.lt_of_lt_of_le hdw hst.bel.size;have HPV:Hid (∀wx,Below w.heap.size w wx→wx.cell? ⟨pb,po+q,none⟩=some (.int .u64 (b.pd.getD q 0))):=hZz (fun wx hb=>(hb.cell (p:=⟨pb,po+q,none⟩) hpw).trans (HPC.out q hqp));have hpv:=HPD.out.at hqp;have hok:=HDF.out.okAt hlt;have HSU:=hZz (oz b q);clear hst hbx;generalize b.pd.getD q 0=pv at HPV hpv HSU;generalize b.m.df.getD q Df.zero=d at c0 c1 c2 c3 hok HSU;have HIN:=hZz (fun w1=>qZ d w1);have HAD:=hZz (fun w1=>HAD0.out d.wh d.of w1 hok.of.1 hok.of.2);obtain ⟨inf,hinf⟩:∃inf,nH d=inf:=⟨_,rfl⟩
    obtain ⟨av,hav⟩:∃av,jX b.i d.wh d.of=av:=⟨_,rfl⟩
    have HSV:Hid (jQ b.i d pv=⟨IntKind.u32.wrap pv,inf,0,if d.wh=0 then 0 else 1,av,0⟩):=hZz (by unfold jQ;rw [hinf,hav]);rw [hinf] at HIN;rw [hav] at HAD;obtain ⟨dn,dw,dof,dk⟩:=d;unfold Df.val Df.cells at HIN;simp only at c0 c1 c2 c3 HIN HAD HSV hpv;have hpv0:=hpv.1;have hpv1:=hpv.2;clear hpv;clear hinf hav hok;go_upto_region 7 with fail
    obtain ⟨wx,hwx⟩:∃wx,wr.alloc (.cells #[.string dn,.int .i64 dw,.int .u64 dof,.bool dk] 61)=wx:=⟨_,rfl⟩
    have HXL:Hid (wx.heap.size=wr.heap.size+1):=hZz (by rw [←hwx];simp);have HDB:Hid (Blk wx wr.heap.size #[.string dn,.int .i64 dw,.int .u64 dof,.bool dk] 61):=hZz (by rw [←hwx];exact Blk.new _ _ _);have HSX:Hid (bm w wx C 84 76 6 (.slice la (q+1) lc) (q+1) (Sy.flat (Sy.zero :: fG b q))):=hZz (by rw [←hwx];exact HST.out.alloc _);rw [hwx];have HPB:Hid (∀w9,Below wx.drew.heap.size wx.drew w9→Blk w9 w.heap.size #[.int .i64 k,.string so,.slice nda ndn ndc,.int .u64 en,.slice coa con coc,.slice daa dan dac,.int .u64 bz,.slice tla tln tlc,.int .u64 tz,.slice (some ⟨db,doo,none⟩) dfn dfc,.slice fxa fxn fxc,.slice tba tbn tbc,.slice (some ⟨pb,po,none⟩) pdn pdc,.slice pna pnn pnc,.int .u64 v0,.int .u64 v1,.int .u64 v2,.int .u64 v3,.int .u64 v4,.int .u64 v5,.int .u64 v6,.int .u64 dy,.int .u64 fr,.int .u64 cp,.int .u64 dp,.int .u64 tp] 84∧Blk w9 wr.heap.size #[.string dn,.int .i64 dw,.int .u64 dof,.bool dk] 61∧w9.cell? ⟨pb,po+q,none⟩=some (.int .u64 pv)):=hZz (fun w9 hb=>
     ⟨HCC.out _ (HSX.out.drew.later hb).box,HDB.out.drew.later hb,HPV.out _ (HSX.out.drew.later hb).bel⟩)
    clear hwx c0 c1 c2 c3 HST;go_wp2_with fail;refine aL (by kernel_rfl) 48 rfl [23,24,25,26,27,28,29,30,31,32,33,34,35,36,37,6,48] (Rbx (wx.drew).heap.size) (aU [Is (.pointer (some ⟨w.heap.size,12,none⟩)),Is (.slice (some ⟨pb,po,none⟩) pdn pdc),Is (.int .i64 q),Is (.pointer (some ⟨pb,po+q,none⟩)),Is (.int .u64 pv),Is (.int .u32 (IntKind.u32.wrap pv)),Is (.agg #[.string dn,.int .i64 dw,.int .u64 dof,.bool dk]),Is (.int .u8 inf),Is (.agg #[.int .i64 k,.string so,.slice nda ndn ndc,.int .u64 en,.slice coa con coc,.slice daa dan dac,.int .u64 bz,.slice tla tln tlc,.int .u64 tz,.slice (some ⟨db,doo,none⟩) dfn dfc,.slice fxa fxn fxc,.slice tba tbn tbc,.slice (some ⟨pb,po,none⟩) pdn pdc,.slice pna pnn pnc,.int .u64 v0,.int .u64 v1,.int .u64 v2,.int .u64 v3,.int .u64 v4,.int .u64 v5,.int .u64 v6,.int .u64 dy,.int .u64 fr,.int .u64 cp,.int .u64 dp,.int .u64 tp]),Is (.pointer (some ⟨wr.heap.size,1,none⟩)),Is (.int .i64 dw),Is (.pointer (some ⟨wr.heap.size,2,none⟩)),Is (.int .u64 dof),Is (.int .u64 av),Is (.agg #[.int .u32 (IntKind.u32.wrap pv),.int .u8 inf,.int .u8 0,.int .u16 0,.int .u64 av,.int .u64 0]),Fb (wx.drew).heap.size 76 6,bD]) (Jb 15 16 (wx.drew) 76 #[.int .u32 (IntKind.u32.wrap pv),.int .u8 inf,.int .u8 0,.int .u16 0,.int .u64 av,.int .u64 0]) ?mono7 ?hj7 (by kernel_rfl) ?start7 ?steps7 ?fin7;case mono7=>exact aV (aa (Is.monoR _ _) (aa (Is.monoR _ _) (aa (Is.monoR _ _) (aa (Is.monoR _ _) (aa (Is.monoR _ _) (aa (Is.monoR _ _) (aa (Is.monoR _ _) (aa (Is.monoR _ _) (aa (Is.monoR _ _) (aa (Is.monoR _ _) (aa (Is.monoR _ _) (aa (Is.monoR _ _) (aa (Is.monoR _ _) (aa (Is.monoR _ _) (aa (Is.monoR _ _) (aa (Fb.monoR _ _ _) (aa (bD.monoR _) (bN _))))))))))))))))))
    case hj7=>exact Jb.congr dZc dZc
    case start7=>exact Jb.start
    case fin7=>
     intro v9 L w9 hJ hall hF;obtain ⟨hbe,hAll⟩:=hJ.done (hall 16 dZc);obtain ⟨gx,Cx,hgx,hgB,hgb,-⟩:Fb (wx.drew).heap.size 76 6 (v9 15) w9:=hF 15 dZc dZc;obtain rfl:=hAll gx Cx hgB hgb;have f23:v9 0=.pointer (some ⟨w.heap.size,12,none⟩):=hF 0 dZc dZc;have f24:v9 1=.slice (some ⟨pb,po,none⟩) pdn pdc:=hF 1 dZc dZc;have f25:v9 2=.int .i64 q:=hF 2 dZc dZc;have f26:v9 3=.pointer (some ⟨pb,po+q,none⟩):=hF 3 dZc dZc;have f27:v9 4=.int .u64 pv:=hF 4 dZc dZc;have f28:v9 5=.int .u32 (IntKind.u32.wrap pv):=hF 5 dZc dZc;have f29:v9 6=.agg #[.string dn,.int .i64 dw,.int .u64 dof,.bool dk]:=hF 6 dZc dZc;have f30:v9 7=.int .u8 inf:=hF 7 dZc dZc;have f31:v9 8=.agg #[.int .i64 k,.string so,.slice nda ndn ndc,.int .u64 en,.slice coa con coc,.slice daa dan dac,.int .u64 bz,.slice tla tln tlc,.int .u64 tz,.slice (some ⟨db,doo,none⟩) dfn dfc,.slice fxa fxn fxc,.slice tba tbn tbc,.slice (some ⟨pb,po,none⟩) pdn pdc,.slice pna pnn pnc,.int .u64 v0,.int .u64 v1,.int .u64 v2,.int .u64 v3,.int .u64 v4,.int .u64 v5,.int .u64 v6,.int .u64 dy,.int .u64 fr,.int .u64 cp,.int .u64 dp,.int .u64 tp]:=hF 8 dZc dZc;have f32:v9 9=.pointer (some ⟨wr.heap.size,1,none⟩):=hF 9 dZc dZc;have f33:v9 10=.int .i64 dw:=hF 10 dZc dZc;have f34:v9 11=.pointer (some ⟨wr.heap.size,2,none⟩):=hF 11 dZc dZc;have f35:v9 12=.int .u64 dof:=hF 12 dZc dZc;have f36:v9 13=.int .u64 av:=hF 13 dZc dZc;have f37:v9 14=.agg #[.int .u32 (IntKind.u32.wrap pv),.int .u8 inf,.int .u8 0,.int .u16 0,.int .u64 av,.int .u64 0]:=hF 14 dZc dZc;clear hJ hall hF hAll;simp only [aO,List.set_cons_succ,List.set_cons_zero,Nat.reduceAdd,hgx,f23,f24,f25,f26,f27,f28,f29,f30,f31,f32,f33,f34,f35,f36,f37];clear hgx f23 f24 f25 f26 f27 f28 f29 f30 f31 f32 f33 f34 f35 f36 f37;have HSW:=hZz (HSX.out.drew.later hbe);have HBE:=hZz hbe;have HGB:=hZz hgb;have HGX:=hZz hgB;have hgl:=hgb.lt;have hdcell:=((HPB.out _ hbe).2.1).cell 1;have hd1:w9.cell? ⟨wr.heap.size,1,none⟩=some (.int .i64 dw):=hdcell;have hwl:wr.heap.size<w9.heap.size:=((HPB.out _ hbe).2.1).lt;have g0:w9.cell? ⟨gx,0,none⟩=some (.int .u32 (IntKind.u32.wrap pv)):=hgb.cell 0;have g1:w9.cell? ⟨gx,1,none⟩=some (.int .u8 inf):=hgb.cell 1;have g2:w9.cell? ⟨gx,2,none⟩=some (.int .u8 0):=hgb.cell 2;have g3:w9.cell? ⟨gx,3,none⟩=some (.int .u16 0):=hgb.cell 3;have g4:w9.cell? ⟨gx,4,none⟩=some (.int .u64 av):=hgb.cell 4;have g5:w9.cell? ⟨gx,5,none⟩=some (.int .u64 0):=hgb.cell 5;have z3:=hgb.frozen 3;clear hbe hgb hgB hdcell HPB HDB;by_cases hd0:dw=0
     ·have hdb0:(dw != 0)=false:=by rw [hd0];rfl
      have HSV1:Hid (jQ b.i ⟨dn,dw,dof,dk⟩ pv=⟨IntKind.u32.wrap pv,inf,0,0,av,0⟩):=hZz (by rw [HSV.out,if_pos hd0]);clear hd0;go_wp2_with (at_builtin;refine wpList_append_own _ rfl _ _ 29 rfl (w.heap.size+1) 76 i0 _ 6 24 Tryz.underlying29 HI.out HZ0.out HZ1.out HZ2.out rfl dZc _ (q+1) _ rfl (HSW.out.alloc _).own _ 1 1 [.int .u32 (IntKind.u32.wrap pv),.int .u8 inf,.int .u8 0,.int .u16 0,.int .u64 av,.int .u64 0] rfl rfl ?d1 ?d2 ?d3 ?d4 ?d5 ?_);case d1=>exact bT w9 [.int .u32 (IntKind.u32.wrap pv),.int .u8 inf,.int .u8 0,.int .u16 0,.int .u64 av,.int .u64 0] _ _ (by simp)
      case d2=>intro u hu;simp at hu;rcases hu with rfl | rfl | rfl | rfl | rfl | rfl<;>rfl
      case d3=>unfold maxLen;omega
      case d4=>omega
      case d5=>have:=HSW.out.box.lt;simp;omega
      intro va wa hown hg _;have HA:Hid (bm w wa C 84 76 6 va (q+1+1) (Sy.flat (Sy.zero :: fG b (q+1)))):=hZz (HSW.out.app (by rw [HSU.out,HSV1.out,←List.cons_append,Sy.flat_snoc];exact hown) hg);clear hown hg;go_wp2;go_roundw
      case rel=>exact ⟨q+1,by omega,by go_num,HA.out⟩
      case measure=>(simp [intOf]<;>omega)
     ·have hdb0:(dw != 0)=true:=by rw [bne_iff_ne];exact hd0
      have HSV1:Hid (jQ b.i ⟨dn,dw,dof,dk⟩ pv=⟨IntKind.u32.wrap pv,inf,0,1,av,0⟩):=hZz (by rw [HSV.out,if_neg hd0]);have hb3:Below wx.drew.heap.size wx.drew (w9.setCell ⟨gx,3,none⟩ (.int .u16 1)):=HBE.out.setCell HGX.out _;have HSS:=hZz (HSX.out.drew.later hb3);clear hb3;clear hd0;go_wp2_with (at_builtin;refine wpList_append_own _ rfl _ _ 29 rfl (w.heap.size+1) 76 i0 _ 6 24 Tryz.underlying29 HI.out HZ0.out HZ1.out HZ2.out rfl dZc _ (q+1) _ rfl (HSS.out.alloc _).own _ 1 1 [.int .u32 (IntKind.u32.wrap pv),.int .u8 inf,.int .u8 0,.int .u16 1,.int .u64 av,.int .u64 0] rfl rfl ?d1 ?d2 ?d3 ?d4 ?d5 ?_);case d1=>exact bT (w9.setCell ⟨gx,3,none⟩ (.int .u16 1)) [.int .u32 (IntKind.u32.wrap pv),.int .u8 inf,.int .u8 0,.int .u16 1,.int .u64 av,.int .u64 0] _ _ (by simp)
      case d2=>intro u hu;simp at hu;rcases hu with rfl | rfl | rfl | rfl | rfl | rfl<;>rfl
      case d3=>unfold maxLen;omega
      case d4=>omega
      case d5=>have:=HSS.out.box.lt;simp;omega
      intro va wa hown hg _;have HA:Hid (bm w wa C 84 76 6 va (q+1+1) (Sy.flat (Sy.zero :: fG b (q+1)))):=hZz (HSS.out.app (by rw [HSU.out,HSV1.out,←List.cons_append,Sy.flat_snoc];exact hown) hg);clear hown hg;go_wp2;go_roundw
      case rel=>exact ⟨q+1,by omega,by go_num,HA.out⟩
      case measure=>(simp [intOf]<;>omega)
    case steps7=>
     refine ⟨?_,?_,?_,?_,?_,?_,?_,?_,?_,?_,?_,?_,?_,?_,?_,?_,?_,trivial⟩;all_goals intro L y w9 hJ hL hy0 hp0 hcl hun
     all_goals have hy:=hZz hy0
     all_goals have hp:=hZz hp0
     all_goals have HJ:=hZz hJ
     all_goals have HLS:=hZz hL
     all_goals have HB:=hZz hJ.bel
     all_goals have HSZ:=hZz hJ.bel.size
     all_goals clear hy0 hp0 hun hJ
     ·have e1:y 1=.pointer (some ⟨w.heap.size,0,none⟩):=hy.out 1 dZc;intro K Q hK;clear hcl hL;obtain ⟨A,hA,v1⟩:=evA1 (n:=48) e1 dZc;rw [hA] at hK⊢;clear hA hy hp;go_simp;exact hK _ _ ⟨Rbx.refl _ _,fun _=>rfl,HJ.out.pure dZc dZc⟩
     ·have e1:y 23=.pointer (some ⟨w.heap.size,12,none⟩):=(hp.out 0 dZc).2 dZc;have q12:w9.cell? ⟨w.heap.size,12,none⟩=some (.slice (some ⟨pb,po,none⟩) pdn pdc):=(HPB.out _ HB.out).1.cell 12;have hl1:=(HPB.out _ HB.out).1.lt;intro K Q hK;clear hcl hL;obtain ⟨A,hA,v1⟩:=evA1 (n:=48) e1 dZc;rw [hA] at hK⊢;clear hA hy hp;go_simp;exact hK _ _ ⟨Rbx.refl _ _,fun _=>rfl,HJ.out.pure dZc dZc⟩
     ·have e1:y 4=.int .i64 q:=hy.out 4 dZc;intro K Q hK;clear hcl hL;obtain ⟨A,hA,v1⟩:=evA1 (n:=48) e1 dZc;rw [hA] at hK⊢;clear hA hy hp;go_simp;exact hK _ _ ⟨Rbx.refl _ _,fun _=>rfl,HJ.out.pure dZc dZc⟩
     ·have e1:y 24=.slice (some ⟨pb,po,none⟩) pdn pdc:=(hp.out 1 dZc).2 dZc;have e2:y 25=.int .i64 q:=(hp.out 2 dZc).2 dZc;intro K Q hK;clear hcl hL;obtain ⟨A,hA,v1,v2⟩:=evA2 (n:=48) e1 e2 dZc dZc;rw [hA] at hK⊢;clear hA hy hp;go_simp;exact hK _ _ ⟨Rbx.refl _ _,fun _=>rfl,HJ.out.pure dZc dZc⟩
     ·have e1:y 26=.pointer (some ⟨pb,po+q,none⟩):=(hp.out 3 dZc).2 dZc;intro K Q hK;clear hcl hL;obtain ⟨A,hA,v1⟩:=evA1 (n:=48) e1 dZc;rw [hA] at hK⊢;clear hA hy hp;have qp:=(HPB.out _ HB.out).2.2;go_simp;exact hK _ _ ⟨Rbx.refl _ _,fun _=>rfl,HJ.out.pure dZc dZc⟩
     ·have e1:y 27=.int .u64 pv:=(hp.out 4 dZc).2 dZc;intro K Q hK;clear hcl hL;obtain ⟨A,hA,v1⟩:=evA1 (n:=48) e1 dZc;rw [hA] at hK⊢;clear hA hy hp;go_simp;exact hK _ _ ⟨Rbx.refl _ _,fun _=>rfl,HJ.out.pure dZc dZc⟩
     ·have e1:y 5=.pointer (some ⟨wr.heap.size,0,none⟩):=hy.out 5 dZc;have q0:w9.cell? ⟨wr.heap.size,0,none⟩=some (.string dn):=(HPB.out _ HB.out).2.1.cell 0;have q1:w9.cell? ⟨wr.heap.size,1,none⟩=some (.int .i64 dw):=(HPB.out _ HB.out).2.1.cell 1;have q2:w9.cell? ⟨wr.heap.size,2,none⟩=some (.int .u64 dof):=(HPB.out _ HB.out).2.1.cell 2;have q3:w9.cell? ⟨wr.heap.size,3,none⟩=some (.bool dk):=(HPB.out _ HB.out).2.1.cell 3;have hl1:=(HPB.out _ HB.out).2.1.lt;intro K Q hK;clear hcl hL;obtain ⟨A,hA,v1⟩:=evA1 (n:=48) e1 dZc;rw [hA] at hK⊢;clear hA hy hp;go_simp;exact hK _ _ ⟨Rbx.refl _ _,fun _=>rfl,HJ.out.pure dZc dZc⟩
     ·have e1:y 29=.agg #[.string dn,.int .i64 dw,.int .u64 dof,.bool dk]:=(hp.out 6 dZc).2 dZc;intro K Q hK;clear hcl hL;obtain ⟨A,hA,v1⟩:=evA1 (n:=48) e1 dZc;rw [hA] at hK⊢;clear hA hy hp;go_simp;go_at_call 126
      refine (HIN.out w9).mono ?_;rintro r w7 ⟨rfl,rfl⟩;exact hK _ _ ⟨Rbx.later HSZ.out ((Below.refl _ _).alloc (lZr _) _),fun _=>rfl,HJ.out.alloc dZc dZc dZc⟩
     ·have e1:y 1=.pointer (some ⟨w.heap.size,0,none⟩):=hy.out 1 dZc;have hl1:=(HPB.out _ HB.out).1.lt;intro K Q hK;clear hcl hL;have v1:=(ax 48 y [] (t:=1) dZc).trans e1;obtain ⟨A,hA⟩:∃A,(⟨af 48 y,[]⟩:Act)=A:=⟨_,rfl⟩
      rw [hA] at v1 hK⊢;clear hA hy hp;refine wp_load_row 84 (.tmp 1) rfl (w.heap.size) v1 _ _ (0,0) _ ((HPB.out _ HB.out).1) Tryz.underlying84 rfl (by kernel_rfl) ?_;exact hK _ _ ⟨Rbx.refl _ _,fun _=>rfl,HJ.out.pure dZc dZc⟩
     ·have e1:y 5=.pointer (some ⟨wr.heap.size,0,none⟩):=hy.out 5 dZc;intro K Q hK;clear hcl hL;obtain ⟨A,hA,v1⟩:=evA1 (n:=48) e1 dZc;rw [hA] at hK⊢;clear hA hy hp;go_simp;exact hK _ _ ⟨Rbx.refl _ _,fun _=>rfl,HJ.out.pure dZc dZc⟩
     ·have e1:y 32=.pointer (some ⟨wr.heap.size,1,none⟩):=(hp.out 9 dZc).2 dZc;have q1:w9.cell? ⟨wr.heap.size,1,none⟩=some (.int .i64 dw):=(HPB.out _ HB.out).2.1.cell 1;have hl1:=(HPB.out _ HB.out).2.1.lt;intro K Q hK;clear hcl hL;obtain ⟨A,hA,v1⟩:=evA1 (n:=48) e1 dZc;rw [hA] at hK⊢;clear hA hy hp;go_simp;exact hK _ _ ⟨Rbx.refl _ _,fun _=>rfl,HJ.out.pure dZc dZc⟩
     ·have e1:y 5=.pointer (some ⟨wr.heap.size,0,none⟩):=hy.out 5 dZc;intro K Q hK;clear hcl hL;obtain ⟨A,hA,v1⟩:=evA1 (n:=48) e1 dZc;rw [hA] at hK⊢;clear hA hy hp;go_simp;exact hK _ _ ⟨Rbx.refl _ _,fun _=>rfl,HJ.out.pure dZc dZc⟩
     ·have e1:y 34=.pointer (some ⟨wr.heap.size,2,none⟩):=(hp.out 11 dZc).2 dZc;have q2:w9.cell? ⟨wr.heap.size,2,none⟩=some (.int .u64 dof):=(HPB.out _ HB.out).2.1.cell 2;have hl1:=(HPB.out _ HB.out).2.1.lt;intro K Q hK;clear hcl hL;obtain ⟨A,hA,v1⟩:=evA1 (n:=48) e1 dZc;rw [hA] at hK⊢;clear hA hy hp;go_simp;exact hK _ _ ⟨Rbx.refl _ _,fun _=>rfl,HJ.out.pure dZc dZc⟩
     ·have e1:y 31=.agg #[.int .i64 k,.string so,.slice nda ndn ndc,.int .u64 en,.slice coa con coc,.slice daa dan dac,.int .u64 bz,.slice tla tln tlc,.int .u64 tz,.slice (some ⟨db,doo,none⟩) dfn dfc,.slice fxa fxn fxc,.slice tba tbn tbc,.slice (some ⟨pb,po,none⟩) pdn pdc,.slice pna pnn pnc,.int .u64 v0,.int .u64 v1,.int .u64 v2,.int .u64 v3,.int .u64 v4,.int .u64 v5,.int .u64 v6,.int .u64 dy,.int .u64 fr,.int .u64 cp,.int .u64 dp,.int .u64 tp]:=(hp.out 8 dZc).2 dZc;have e2:y 33=.int .i64 dw:=(hp.out 10 dZc).2 dZc;have e3:y 35=.int .u64 dof:=(hp.out 12 dZc).2 dZc;intro K Q hK;clear hcl hL;obtain ⟨A,hA,v1,v2,v3⟩:=evA3 (n:=48) e1 e2 e3 dZc dZc dZc;rw [hA] at hK⊢;clear hA hy hp;go_simp;go_at_call 127
      refine (HAD.out w9).mono ?_;rintro r w7 ⟨rfl,rfl⟩;exact hK _ _ ⟨Rbx.later HSZ.out ((Below.refl _ _).alloc (lZr _) _),fun _=>rfl,HJ.out.alloc dZc dZc dZc⟩
     ·have e1:y 28=.int .u32 (IntKind.u32.wrap pv):=(hp.out 5 dZc).2 dZc;have e2:y 30=.int .u8 inf:=(hp.out 7 dZc).2 dZc;have e3:y 36=.int .u64 av:=(hp.out 13 dZc).2 dZc;intro K Q hK;clear hcl hL;obtain ⟨A,hA,v1,v2,v3⟩:=evA3 (n:=48) e1 e2 e3 dZc dZc dZc;rw [hA] at hK⊢;clear hA hy hp;rw [Array.getD_eq_getD_getElem?] at v1 v2 v3;go_simp;exact hK _ _ ⟨Rbx.refl _ _,fun _=>rfl,HJ.out.pure dZc dZc⟩
     ·have HLJ:Hid (L 16=false):=hZz (by
       cases h:L 16 with
       | false=>rfl
       | true=>have:=(hcl 16 _ rfl h 15 dZc);rw [hL] at this;cases this)
      intro K Q hK;clear hcl hL;obtain ⟨A,hA⟩:∃A,(⟨af 48 y,[]⟩:Act)=A:=⟨_,rfl⟩
      rw [hA] at hK⊢;clear hA hy hp;go_simp;exact hK _ _ ⟨Rbx.later HSZ.out ((Below.refl _ _).alloc (lZr _) _),fun _=>⟨_,_,rfl,HSZ.out,Blk.new _ _ _,rfl⟩,HJ.out.first dZc HLS.out HLJ.out⟩
     ·obtain ⟨hLi,hfi⟩:=hp.out 15 dZc;have HLI:=hZz hLi;obtain ⟨gx,Cx,e1,hgB,hgb,hgk⟩:Fb (wx.drew).heap.size 76 6 (y 6) w9:=hfi dZc;have e2:y 37=.agg #[.int .u32 (IntKind.u32.wrap pv),.int .u8 inf,.int .u8 0,.int .u16 0,.int .u64 av,.int .u64 0]:=(hp.out 14 dZc).2 dZc;have HGB0:=hZz hgb;obtain ⟨c0,c1,c2,c3,c4,c5,rfl⟩:=arr6 hgk;have HGB:=hZz hgb;have q0:w9.cell? ⟨gx,0,none⟩=some c0:=hgb.cell 0;have q1:w9.cell? ⟨gx,1,none⟩=some c1:=hgb.cell 1;have q2:w9.cell? ⟨gx,2,none⟩=some c2:=hgb.cell 2;have q3:w9.cell? ⟨gx,3,none⟩=some c3:=hgb.cell 3;have q4:w9.cell? ⟨gx,4,none⟩=some c4:=hgb.cell 4;have q5:w9.cell? ⟨gx,5,none⟩=some c5:=hgb.cell 5;have f0:w9.frozen? ⟨gx,0,none⟩=false:=hgb.frozen 0;have f1:w9.frozen? ⟨gx,1,none⟩=false:=hgb.frozen 1;have f2:w9.frozen? ⟨gx,2,none⟩=false:=hgb.frozen 2;have f3:w9.frozen? ⟨gx,3,none⟩=false:=hgb.frozen 3;have f4:w9.frozen? ⟨gx,4,none⟩=false:=hgb.frozen 4;have f5:w9.frozen? ⟨gx,5,none⟩=false:=hgb.frozen 5;have hgl:=hgb.lt;clear hgb HGB0 hgk hfi;intro K Q hK;clear hcl hL;obtain ⟨A,hA,v1,v2⟩:=evA2 (n:=48) e1 e2 dZc dZc;rw [hA] at hK⊢;clear hA hy hp;go_simp;exact hK undef _ ⟨(((((((Rbx.refl _ w9).set hgB 0 (.int .u32 (IntKind.u32.wrap pv))).set hgB 1 (.int .u8 inf)).set hgB 2 (.int .u8 0)).set hgB 3 (.int .u16 0)).set hgB 4 (.int .u64 av)).set hgB 5 (.int .u64 0)),fun _=>True.intro,HJ.out.second HLI.out HLS.out hgB HGB.out (HGB.out.all6 (.int .u32 (IntKind.u32.wrap pv)) (.int .u8 inf) (.int .u8 0) (.int .u16 0) (.int .u64 av) (.int .u64 0)) (((((((Rbx.refl _ w9).set hgB 0 (.int .u32 (IntKind.u32.wrap pv))).set hgB 1 (.int .u8 inf)).set hgB 2 (.int .u8 0)).set hgB 3 (.int .u16 0)).set hgB 4 (.int .u64 av)).set hgB 5 (.int .u64 0)) (fun g' C1 h0=>by obtain ⟨_,h1⟩:=h0.unset;obtain ⟨_,h2⟩:=h1.unset;obtain ⟨_,h3⟩:=h2.unset;obtain ⟨_,h4⟩:=h3.unset;obtain ⟨_,h5⟩:=h4.unset;obtain ⟨_,h6⟩:=h5.unset;exact ⟨_,h6⟩)⟩
   ·obtain rfl:q=dfn:=by omega
    have HN:Hid (q+1=(Sy.zero :: fG b q).length):=hZz (by simp [jo]);clear hst hbx;go_wp2;go_ret;refine ⟨⟨_,rfl,?_⟩,HST.out.bel⟩;rw [jo];exact aR HST.out.own (Nat.le_succ _)
end Go.Proofs.YtclgbdfkdbbinaaGreat
