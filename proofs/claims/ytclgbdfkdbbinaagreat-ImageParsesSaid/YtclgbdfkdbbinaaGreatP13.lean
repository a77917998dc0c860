/-
  What is proved here: words and contracts, a part of those that the statement rests on (P13).
  Conditions: none but that the arguments are values of their types.
-/
import Derived.Test.YtclgbdfkdbbinaaGreatP12
import Derived.Test.YtclgbdfkdbbinaaGreatP2
import Derived.Test.YtclgbdfkdbbinaaGreatP10
import Derived.Test.YtclgbdfkdbbinaaGreatP3
set_option linter.unusedVariables false
set_option linter.unusedSimpArgs false
set_option maxRecDepth 100000
set_option maxHeartbeats 12800000
namespace Go.Proofs.YtclgbdfkdbbinaaGreat
open Go.RowKit
def headI (m:Pm):Int×Pm:=
 if m.m.zs.length<64 then (10,m) else if isHead m.m.zs=false then (11,m)
 else if kOf m.m.zs=2∨kOf m.m.zs=3 then (0,{ m with m:={ m.m with k:=kOf m.m.zs,e:=eOf m.m.zs,s:=sOf m.m.zs,c:=cOf m.m.zs } }) else (11,m)
theorem maybe9_any (k:Int) (w:World):Calls Tryz.prog 45 #[.int .i64 k] w fun r w'=>r=.returned (.bool (k==2 || k==3))∧w=w':=by
 by_cases h2:k=2
 ·subst h2;go_enter Tryz.func45,Tryz.ntmps45
  go_wp2;go_ret;exact ⟨rfl,rfl⟩
 ·have h2b:(k==2)=false:=by simpa using h2
  by_cases h3:k=3
  ·subst h3;go_enter Tryz.func45,Tryz.ntmps45
   go_wp2;go_ret;exact ⟨rfl,rfl⟩
  ·have h3b:(k==3)=false:=by simpa using h3
   go_enter Tryz.func45,Tryz.ntmps45
   go_wp2;go_ret;exact ⟨by rw [h2b,h3b];rfl,rfl⟩
theorem hget9 (zs:List Int):∃k e s c er:Int,k3_getV zs=.tuple #[.agg #[.int .i64 k,.int .u64 e,.int .u64 s,.int .i64 c],.int .i64 er]∧
 ((zs.length<64∧er=10)∨(64≤zs.length∧isHead zs=false∧er=11)∨(64≤zs.length∧isHead zs=true∧er=0∧k=kOf zs∧e=eOf zs∧s=sOf zs∧c=cOf zs)):=by
 unfold k3_getV;by_cases h:zs.length<64
 ·rw [if_pos h];exact ⟨0,0,0,0,10,rfl,.inl ⟨h,rfl⟩⟩
 ·rw [if_neg h];cases hi:isHead zs with
  | true=>rw [if_pos rfl];exact ⟨_,_,_,_,0,rfl,.inr (.inr ⟨by omega,rfl,rfl,rfl,rfl,rfl,rfl⟩)⟩
  | false=>rw [if_neg (by decide)];exact ⟨0,0,0,0,11,rfl,.inr (.inl ⟨by omega,rfl,rfl⟩)⟩
theorem Blk.head9 {w:World} {g:Nat} {t:TypeId} {z0 z1 z2 z3:Value} {C:List Value} (h:Blk w g ⟨z0 :: z1 :: z2 :: z3 :: C⟩ t) (v0 v1 v2 v3:Value):Blk ((((w.setCell ⟨g,0,none⟩ v0).setCell ⟨g,1,none⟩ v1).setCell ⟨g,2,none⟩ v2).setCell ⟨g,3,none⟩ v3) g ⟨v0 :: v1 :: v2 :: v3 :: C⟩ t:=by
 have h1:Blk (w.setCell ⟨g,0,none⟩ v0) g ⟨v0 :: z1 :: z2 :: z3 :: C⟩ t:=by have q:=h.set 0 v0;simpa using q
 have h2:Blk ((w.setCell ⟨g,0,none⟩ v0).setCell ⟨g,1,none⟩ v1) g ⟨v0 :: v1 :: z2 :: z3 :: C⟩ t:=by have q:=h1.set 1 v1;simpa using q
 have h3:Blk (((w.setCell ⟨g,0,none⟩ v0).setCell ⟨g,1,none⟩ v1).setCell ⟨g,2,none⟩ v2) g ⟨v0 :: v1 :: v2 :: z3 :: C⟩ t:=by have q:=h2.set 2 v2;simpa using q
 have q:=h3.set 3 v3;simpa using q
theorem head9_ok (g:Nat):StepOk g 20 headI:=by
 intro p m w h;have H:=Lib.hid h;have hgl:=h.lt;have HK:Hid (∀w1,Below w.heap.size w w1→Blk w1 g p.cells 72):=Lib.hid (fun w1 h1=>h.box.later h1);obtain ⟨hk,he,hs,hc,er,hg,hcase⟩:=hget9 m.m.zs;have HG:=Lib.hid (hget_f hg w.heap.size p.x.zs.a p.x.zs.n p.x.zs.c w h.bys.1 (Nat.le_refl _) h.bys.2.1 h.bys.2.2.1);obtain ⟨⟨k,e,s,c,⟨sga,sgn,sgc⟩,so,⟨nda,ndn,ndc⟩,⟨nma,nmn,nmc⟩,⟨sya,syn,syc⟩,⟨rla,rln,rlc⟩,⟨zsa,zsn,zsc⟩⟩,⟨fia,fin,fic⟩,⟨n0,n1,n2⟩,v0,v1,v2,v3,v4,v5,v6,⟨tba,tbn,tbc⟩⟩:=p;clear h hg;have q10:w.cell? ⟨g,10,none⟩=some (.slice zsa zsn zsc):=(HK.out w (Below.refl _ _)).cell 10;simp only at HG;have HCASE:=Lib.hid hcase;clear hcase;have HEND:Hid (∀w2,Below w.heap.size w w2→Blk ((((w2.setCell ⟨g,0,none⟩ (.int .i64 hk)).setCell ⟨g,1,none⟩ (.int .u64 he)).setCell ⟨g,2,none⟩ (.int .u64 hs)).setCell ⟨g,3,none⟩ (.int .i64 hc)) g #[.int .i64 hk,.int .u64 he,.int .u64 hs,.int .i64 hc,.slice sga sgn sgc,.string so,.slice nda ndn ndc,.slice nma nmn nmc,.slice sya syn syc,.slice rla rln rlc,.slice zsa zsn zsc,.slice fia fin fic,.slice n0 n1 n2,.int .u64 v0,.int .u64 v1,.int .u64 v2,.int .u64 v3,.int .u64 v4,.int .u64 v5,.int .u64 v6,.slice tba tbn tbc] 72∧Kq g w ((((w2.setCell ⟨g,0,none⟩ (.int .i64 hk)).setCell ⟨g,1,none⟩ (.int .u64 he)).setCell ⟨g,2,none⟩ (.int .u64 hs)).setCell ⟨g,3,none⟩ (.int .i64 hc))):=Lib.hid (fun w2 h2=>
  ⟨(HK.out w2 h2).head9 _ _ _ _,((((Kq.later (Nat.le_of_lt hgl) h2).set 0 _).set 1 _).set 2 _).set 3 _⟩)
 have HPS:Hid (hk=kOf m.m.zs→he=eOf m.m.zs→hs=sOf m.m.zs→hc=cOf m.m.zs→u64B hs→∀w3,Blk w3 g #[.int .i64 hk,.int .u64 he,.int .u64 hs,.int .i64 hc,.slice sga sgn sgc,.string so,.slice nda ndn ndc,.slice nma nmn nmc,.slice sya syn syc,.slice rla rln rlc,.slice zsa zsn zsc,.slice fia fin fic,.slice n0 n1 n2,.int .u64 v0,.int .u64 v1,.int .u64 v2,.int .u64 v3,.int .u64 v4,.int .u64 v5,.int .u64 v6,.slice tba tbn tbc] 72→Kq g w w3→Ps9 g w3 ⟨⟨hk,he,hs,hc,⟨sga,sgn,sgc⟩,so,⟨nda,ndn,ndc⟩,⟨nma,nmn,nmc⟩,⟨sya,syn,syc⟩,⟨rla,rln,rlc⟩,⟨zsa,zsn,zsc⟩⟩,⟨fia,fin,fic⟩,⟨n0,n1,n2⟩,v0,v1,v2,v3,v4,v5,v6,⟨tba,tbn,tbc⟩⟩ { m with m:={ m.m with k:=kOf m.m.zs,e:=eOf m.m.zs,s:=sOf m.m.zs,c:=cOf m.m.zs } }):=Lib.hid (fun e1 e2 e3 e4 e5 w3 hb hq=>H.out.next hq hb { H.out.row.kp hq.kp (Nat.lt_succ_self _) with k:=e1,e:=e2,s:=e3,c:=e4,bs:=e5 } rfl rfl);have HZ:=Lib.hid H.out.row.okz;obtain ⟨Z,hZ⟩:∃Z,headI m=Z:=⟨_,rfl⟩
 have HZD:=Lib.hid hZ;rw [hZ];clear hZ;have HMB:=Lib.hid (fun w1=>maybe9_any hk w1);by_cases her:er=0
 ·subst her;obtain ⟨hl,hih,e1,e2,e3,e4⟩:64≤m.m.zs.length∧isHead m.m.zs=true∧hk=kOf m.m.zs∧he=eOf m.m.zs∧hs=sOf m.m.zs∧hc=cOf m.m.zs:=by
   rcases HCASE.out with ⟨-,h⟩ | ⟨-,-,h⟩ | ⟨h1,h2,-,h3,h4,h5,h6⟩
   ·cases h
   ·cases h
   ·exact ⟨h1,h2,h3,h4,h5,h6⟩
  have HPS2:=Lib.hid (HPS.out e1 e2 e3 e4 (by rw [e3];exact sOf_bd HZ.out hl));have HZ2:Hid (Z=if hk=2∨hk=3 then (0,{ m with m:={ m.m with k:=kOf m.m.zs,e:=eOf m.m.zs,s:=sOf m.m.zs,c:=cOf m.m.zs } }) else (11,m)):=Lib.hid (by rw [←HZD.out];unfold headI;rw [if_neg (by omega),if_neg (by rw [hih];decide),e1]);clear HPS e1 e2 e3 e4 hl hih HZD HCASE HZ;by_cases hm:hk=2∨hk=3
  ·have hb:(hk==2 || hk==3)=true:=by rcases hm with h | h<;>rw [h]<;>rfl
   have hZ:=HZ2.out;rw [if_pos hm] at hZ;subst hZ;rw [hb] at HMB;clear hm hb;go_enter Tryz.func20,Tryz.ntmps20
   go_wp2_with fail;refine HG.out.mono ?_;rintro r w2 ⟨rfl,hb2⟩;obtain ⟨hbx,hkq⟩:=HEND.out w2 hb2;have HBX:=Lib.hid hbx;have HKQ:=Lib.hid hkq;have hbo:=HK.out w2 hb2;obtain ⟨p0,p1,p2,p3⟩:w2.cell? ⟨g,0,none⟩=some (.int .i64 k)∧w2.cell? ⟨g,1,none⟩=some (.int .u64 e)∧w2.cell? ⟨g,2,none⟩=some (.int .u64 s)∧w2.cell? ⟨g,3,none⟩=some (.int .i64 c):=⟨hbo.cell 0,hbo.cell 1,hbo.cell 2,hbo.cell 3⟩
   obtain ⟨f0,f1,f2,f3⟩:w2.frozen? ⟨g,0,none⟩=false∧w2.frozen? ⟨g,1,none⟩=false∧w2.frozen? ⟨g,2,none⟩=false∧w2.frozen? ⟨g,3,none⟩=false:=⟨hbo.frozen 0,hbo.frozen 1,hbo.frozen 2,hbo.frozen 3⟩
   have hgl2:=hbo.lt;have z0:=hbx.cell 0;clear hb2 hbx hkq hbo;go_wp2_with fail;refine (HMB.out _).mono ?_;rintro r w3 ⟨rfl,rfl⟩;go_wp2;go_ret;exact ⟨rfl,fun _=>⟨_,HPS2.out _ HBX.out HKQ.out⟩,HKQ.out⟩
  ·have hb:(hk==2 || hk==3)=false:=by rw [Bool.eq_false_iff];intro h;apply hm;simpa using h
   have hZ:=HZ2.out;rw [if_neg hm] at hZ;subst hZ;rw [hb] at HMB;clear hm hb;go_enter Tryz.func20,Tryz.ntmps20
   go_wp2_with fail;refine HG.out.mono ?_;rintro r w2 ⟨rfl,hb2⟩;obtain ⟨hbx,hkq⟩:=HEND.out w2 hb2;have HKQ:=Lib.hid hkq;have hbo:=HK.out w2 hb2;obtain ⟨p0,p1,p2,p3⟩:w2.cell? ⟨g,0,none⟩=some (.int .i64 k)∧w2.cell? ⟨g,1,none⟩=some (.int .u64 e)∧w2.cell? ⟨g,2,none⟩=some (.int .u64 s)∧w2.cell? ⟨g,3,none⟩=some (.int .i64 c):=⟨hbo.cell 0,hbo.cell 1,hbo.cell 2,hbo.cell 3⟩
   obtain ⟨f0,f1,f2,f3⟩:w2.frozen? ⟨g,0,none⟩=false∧w2.frozen? ⟨g,1,none⟩=false∧w2.frozen? ⟨g,2,none⟩=false∧w2.frozen? ⟨g,3,none⟩=false:=⟨hbo.frozen 0,hbo.frozen 1,hbo.frozen 2,hbo.frozen 3⟩
   have hgl2:=hbo.lt;have z0:=hbx.cell 0;clear hb2 hbx hkq hbo;go_wp2_with fail;refine (HMB.out _).mono ?_;rintro r w3 ⟨rfl,rfl⟩;go_wp2;go_ret;exact ⟨rfl,fun e=>(by cases e),HKQ.out⟩
 ·have hZ:Z=(er,m):=by
   rw [←HZD.out];unfold headI;rcases HCASE.out with ⟨h1,h2⟩ | ⟨h1,h2,h3⟩ | ⟨-,-,h,-⟩
   ·rw [if_pos h1,h2]
   ·rw [if_neg (by omega),if_pos h2,h3]
   ·exact absurd h her
  subst hZ;have heb:(er != 0)=true:=by rw [bne_iff_ne];exact her
  clear HZD HCASE HZ HPS HMB;go_enter Tryz.func20,Tryz.ntmps20
  go_wp2_with fail;refine HG.out.mono ?_;rintro r w2 ⟨rfl,hb2⟩;obtain ⟨hbx,hkq⟩:=HEND.out w2 hb2;have HKQ:=Lib.hid hkq;have hbo:=HK.out w2 hb2;obtain ⟨p0,p1,p2,p3⟩:w2.cell? ⟨g,0,none⟩=some (.int .i64 k)∧w2.cell? ⟨g,1,none⟩=some (.int .u64 e)∧w2.cell? ⟨g,2,none⟩=some (.int .u64 s)∧w2.cell? ⟨g,3,none⟩=some (.int .i64 c):=⟨hbo.cell 0,hbo.cell 1,hbo.cell 2,hbo.cell 3⟩
  obtain ⟨f0,f1,f2,f3⟩:w2.frozen? ⟨g,0,none⟩=false∧w2.frozen? ⟨g,1,none⟩=false∧w2.frozen? ⟨g,2,none⟩=false∧w2.frozen? ⟨g,3,none⟩=false:=⟨hbo.frozen 0,hbo.frozen 1,hbo.frozen 2,hbo.frozen 3⟩
  have hgl2:=hbo.lt;clear hb2 hbx hkq hbo;go_wp2;go_ret;exact ⟨rfl,fun e=>absurd e her,HKQ.out⟩
def segsI (m:Pm):Int×Pm:=
 if (k4_tabR m.m.zs m.m.s m.m.c).1≠0 then ((k4_tabR m.m.zs m.m.s m.m.c).1,m)
 else if checkS (k4_tabR m.m.zs m.m.s m.m.c).2 m.m.zs.length≠0 then (checkS (k4_tabR m.m.zs m.m.s m.m.c).2 m.m.zs.length,m)
 else if (k4_tabR m.m.zs m.m.s m.m.c).2.find? (kindB 1)=none then (11,m)
 else (0,{ m with m:={ m.m with sg:=(k4_tabR m.m.zs m.m.s m.m.c).2 } })
theorem segs9_ok (g:Nat):StepOk g 21 segsI:=by
 intro p m w h;have H:=Lib.hid h;have hgl:=h.lt;obtain ⟨T,hT⟩:∃T,k4_tabR m.m.zs m.m.s m.m.c=T:=⟨_,rfl⟩
 have HOK:Hid (∀s∈T.2,s.Ok):=Lib.hid (by rw [←hT];exact (k4_tabR_ok h.row.okz (by rw [←h.row.s];exact h.row.bs.1)).1);have hzn:p.x.zs.n=m.m.zs.length:=h.bys.1.1.symm;have hzl:p.x.zs.n≤65536:=h.bys.2.2.2;have hpe:p.x.s=m.m.s∧p.x.c=m.m.c:=⟨h.row.s,h.row.c⟩
 have hbs:=h.row.bs;have HB0:=Lib.hid (show ∀w1,Ps9 g w1 p m→Blk w1 g p.cells 72 from fun w1 h1=>h1.box);have HBY:Hid (∀w1,Ps9 g w1 p m→Bys w1 w1.heap.size p.x.zs.a p.x.zs.n m.m.zs∧p.x.zs.n≤p.x.zs.c∧(p.x.zs.c:Int)≤9223372036854775807):=Lib.hid (fun w1 h1=>⟨h1.bys.1,h1.bys.2.1,h1.bys.2.2.1⟩);obtain ⟨⟨k,e,s,c,⟨sga,sgn,sgc⟩,so,⟨nda,ndn,ndc⟩,⟨nma,nmn,nmc⟩,⟨sya,syn,syc⟩,⟨rla,rln,rlc⟩,⟨zsa,zsn,zsc⟩⟩,⟨fia,fin,fic⟩,⟨n0,n1,n2⟩,v0,v1,v2,v3,v4,v5,v6,⟨tba,tbn,tbc⟩⟩:=p;simp only at hzn hzl hpe hbs HB0 HBY;obtain ⟨rfl,rfl⟩:=hpe;have hzi:(zsn:Int)≤65536:=by omega
 obtain ⟨P0,hP0⟩:∃P0:World→Prop,P0=fun w1=>Ps9 g w1 ⟨⟨k,e,m.m.s,m.m.c,⟨sga,sgn,sgc⟩,so,⟨nda,ndn,ndc⟩,⟨nma,nmn,nmc⟩,⟨sya,syn,syc⟩,⟨rla,rln,rlc⟩,⟨zsa,zsn,zsc⟩⟩,⟨fia,fin,fic⟩,⟨n0,n1,n2⟩,v0,v1,v2,v3,v4,v5,v6,⟨tba,tbn,tbc⟩⟩ m∧Kq g w w1:=⟨_,rfl⟩
 obtain ⟨P1,hP1⟩:∃P1:World→Prop,P1=fun w1=>∃xa xc,Ps9 g w1 ⟨⟨k,e,m.m.s,m.m.c,⟨xa,T.2.length,xc⟩,so,⟨nda,ndn,ndc⟩,⟨nma,nmn,nmc⟩,⟨sya,syn,syc⟩,⟨rla,rln,rlc⟩,⟨zsa,zsn,zsc⟩⟩,⟨fia,fin,fic⟩,⟨n0,n1,n2⟩,v0,v1,v2,v3,v4,v5,v6,⟨tba,tbn,tbc⟩⟩ { m with m:={ m.m with sg:=T.2 } }∧Kq g w w1:=⟨_,rfl⟩
 have HP0:Hid (P0 w.drew):=Lib.hid (by rw [hP0];exact ⟨H.out.drew,(Kq.refl g w).drew (Nat.le_of_lt hgl)⟩);have HPB:Hid (∀w1,P0 w1→Blk w1 g #[.int .i64 k,.int .u64 e,.int .u64 m.m.s,.int .i64 m.m.c,.slice sga sgn sgc,.string so,.slice nda ndn ndc,.slice nma nmn nmc,.slice sya syn syc,.slice rla rln rlc,.slice zsa zsn zsc,.slice fia fin fic,.slice n0 n1 n2,.int .u64 v0,.int .u64 v1,.int .u64 v2,.int .u64 v3,.int .u64 v4,.int .u64 v5,.int .u64 v6,.slice tba tbn tbc] 72):=Lib.hid (fun w1 h1=>by rw [hP0] at h1;exact h1.1.box);have HPC:Hid (∀w1,P0 w1→Calls Tryz.prog 46 #[.slice zsa zsn zsc,.int .u64 m.m.s,.int .i64 m.m.c] w1 fun r w2=>(∃u,r=.returned (.tuple #[u,.int .i64 T.1])∧w2.ownsRow (g+1) 65 7 u T.2.length (flatS T.2))∧P0 w2∧Kq g w1 w2):=Lib.hid (fun w1 h1=>by
  rw [hP0] at h1;obtain ⟨b1,b2,b3⟩:=HBY.out w1 h1.1;have hl:=h1.1.lt;refine (k4_stable_any w1.heap.size zsa zsn zsc m.m.zs m.m.s m.m.c w1 b1 (Nat.le_refl _) b2 b3 (by omega) hbs.1 hbs.2).mono ?_;rintro r w2 ⟨⟨u,hr,ho⟩,hb⟩;rw [hT] at hr ho;refine ⟨⟨u,hr,own_base9 ho hl⟩,?_,Kq.later (Nat.le_of_lt hl) hb⟩;rw [hP0];exact ⟨h1.1.later hb,h1.2.trans (Kq.later (Nat.le_of_lt hl) hb)⟩)
 have HPS:Hid (∀w1 xa xc,P0 w1→w1.ownsRow (g+1) 65 7 (.slice xa T.2.length xc) T.2.length (flatS T.2)→P1 (w1.setCell ⟨g,4,none⟩ (.slice xa T.2.length xc))∧Kq g w1 (w1.setCell ⟨g,4,none⟩ (.slice xa T.2.length xc))):=Lib.hid (fun w1 xa xc h1 ho=>by
  rw [hP0] at h1;rw [hP1];have hk:Kq g w1 (w1.setCell ⟨g,4,none⟩ (.slice xa T.2.length xc)):=(Kq.refl g w1).set 4 _;have hbx:=h1.1.box.set 4 (.slice xa T.2.length xc);exact ⟨⟨xa,xc,h1.1.next hk hbx { h1.1.row.kp hk.kp (Nat.lt_succ_self _) with sg:=own_kp hk.kp ho (Nat.lt_succ_self _),oks:=HOK.out } rfl rfl,h1.2.trans hk⟩,hk⟩)
 have HFZ:Hid (∀w1,P0 w1→w1.frozen? ⟨g,4,none⟩=false∧w1.cell? ⟨g,4,none⟩=some (.slice sga sgn sgc)∧g<w1.heap.size):=Lib.hid (fun w1 h1=>⟨(HPB.out w1 h1).frozen 4,(HPB.out w1 h1).cell 4,(HPB.out w1 h1).lt⟩);have HR1:=Lib.hid (fun w1 (h1:P1 w1)=>(by rw [hP1] at h1;exact h1:∃xa xc,Ps9 g w1 ⟨⟨k,e,m.m.s,m.m.c,⟨xa,T.2.length,xc⟩,so,⟨nda,ndn,ndc⟩,⟨nma,nmn,nmc⟩,⟨sya,syn,syc⟩,⟨rla,rln,rlc⟩,⟨zsa,zsn,zsc⟩⟩,⟨fia,fin,fic⟩,⟨n0,n1,n2⟩,v0,v1,v2,v3,v4,v5,v6,⟨tba,tbn,tbc⟩⟩ { m with m:={ m.m with sg:=T.2 } }∧Kq g w w1));have HZ:Hid (∃Z,segsI m=Z∧(T.1≠0→Z=(T.1,m))∧(T.1=0→checkS T.2 m.m.zs.length≠0→Z=(checkS T.2 m.m.zs.length,m))∧(T.1=0→checkS T.2 m.m.zs.length=0→T.2.find? (kindB 1)=none→Z=(11,m))∧(T.1=0→checkS T.2 m.m.zs.length=0→T.2.find? (kindB 1)≠none→Z=(0,{ m with m:={ m.m with sg:=T.2 } }))):=Lib.hid (by
  refine ⟨_,rfl,?_,?_,?_,?_⟩
  ·intro h1;unfold segsI;rw [hT,if_pos h1]
  ·intro h1 h2;unfold segsI;rw [hT,if_neg (by simpa using h1),if_pos h2]
  ·intro h1 h2 h3;unfold segsI;rw [hT,if_neg (by simpa using h1),if_neg (by simpa using h2),if_pos h3]
  ·intro h1 h2 h3;unfold segsI;rw [hT,if_neg (by simpa using h1),if_neg (by simpa using h2),if_neg h3])
 obtain ⟨Z,hZ,HZ1,HZ2,HZ3,HZ4⟩:=HZ.out;rw [hZ];have HZ1:=Lib.hid HZ1;have HZ2:=Lib.hid HZ2;have HZ3:=Lib.hid HZ3;have HZ4:=Lib.hid HZ4;have HZN:=Lib.hid hzn;clear h hP0 hP1 hT hZ HZ hzn hbs;obtain ⟨te,TL⟩:=T;simp only at HPC HPS HR1 HZ1 HZ2 HZ3 HZ4 HOK;obtain ⟨tn,htn⟩:∃tn,TL.length=tn:=⟨_,rfl⟩
 rw [htn] at HPC HPS HR1;obtain ⟨ck,hck⟩:∃ck,checkS TL m.m.zs.length=ck:=⟨_,rfl⟩
 rw [hck] at HZ2 HZ3 HZ4;have HR2:Hid (∀w1,P1 w1→∃xa xc,Kq g w w1∧Ps9 g w1 ⟨⟨k,e,m.m.s,m.m.c,⟨xa,tn,xc⟩,so,⟨nda,ndn,ndc⟩,⟨nma,nmn,nmc⟩,⟨sya,syn,syc⟩,⟨rla,rln,rlc⟩,⟨zsa,zsn,zsc⟩⟩,⟨fia,fin,fic⟩,⟨n0,n1,n2⟩,v0,v1,v2,v3,v4,v5,v6,⟨tba,tbn,tbc⟩⟩ { m with m:={ m.m with sg:=TL } }∧Blk w1 g #[.int .i64 k,.int .u64 e,.int .u64 m.m.s,.int .i64 m.m.c,.slice xa tn xc,.string so,.slice nda ndn ndc,.slice nma nmn nmc,.slice sya syn syc,.slice rla rln rlc,.slice zsa zsn zsc,.slice fia fin fic,.slice n0 n1 n2,.int .u64 v0,.int .u64 v1,.int .u64 v2,.int .u64 v3,.int .u64 v4,.int .u64 v5,.int .u64 v6,.slice tba tbn tbc] 72):=Lib.hid (fun w1 h1=>by
  obtain ⟨xa,xc,h2,h3⟩:=HR1.out w1 h1;exact ⟨xa,xc,h3,h2,h2.box⟩)
 have HCK:Hid (∀w1 xa xc,Ps9 g w1 ⟨⟨k,e,m.m.s,m.m.c,⟨xa,tn,xc⟩,so,⟨nda,ndn,ndc⟩,⟨nma,nmn,nmc⟩,⟨sya,syn,syc⟩,⟨rla,rln,rlc⟩,⟨zsa,zsn,zsc⟩⟩,⟨fia,fin,fic⟩,⟨n0,n1,n2⟩,v0,v1,v2,v3,v4,v5,v6,⟨tba,tbn,tbc⟩⟩ { m with m:={ m.m with sg:=TL } }→Calls Tryz.prog 47 #[.slice xa tn xc,.int .u64 zsn] w1 (fun r w2=>r=.returned (.int .i64 ck)∧Below w1.heap.size w1 w2)):=Lib.hid (fun w1 xa xc h2=>by
  have h4:=h2.seg;have:=check1_any w1.heap.size xa tn xc TL zsn w1 h4.1 (Nat.le_refl _) h4.2.1 h4.2.2 (by omega) (by omega);rw [HZN.out,hck] at this;rw [HZN.out];exact this)
 have HFD:Hid (∀w1 xa xc,Ps9 g w1 ⟨⟨k,e,m.m.s,m.m.c,⟨xa,tn,xc⟩,so,⟨nda,ndn,ndc⟩,⟨nma,nmn,nmc⟩,⟨sya,syn,syc⟩,⟨rla,rln,rlc⟩,⟨zsa,zsn,zsc⟩⟩,⟨fia,fin,fic⟩,⟨n0,n1,n2⟩,v0,v1,v2,v3,v4,v5,v6,⟨tba,tbn,tbc⟩⟩ { m with m:={ m.m with sg:=TL } }→Calls Tryz.prog 48 #[.slice xa tn xc,.int .u32 1] w1 fun r w2=>r=.returned (.tuple #[foundV (TL.find? (kindB 1)),.bool (TL.find? (kindB 1)).isSome])∧Below w1.heap.size w1 w2):=Lib.hid (fun w1 xa xc h1=>by
  have h4:=h1.seg;exact sfind_any w1.heap.size xa tn xc TL 1 w1 h4.1 (Nat.le_refl _) (by have h5:=h4.2.1;have h6:=h4.2.2;simp only at h5 h6;omega))
 have HW1:Hid (IntKind.u64.wrap (zsn:Int)=zsn):=Lib.hid (by rw [IntKind.wrap_u64];omega);clear HBY HB0;clear hck;go_enter Tryz.func21,Tryz.ntmps21
 go_wp2_with fail;refine wp_region_word (by kernel_rfl) 60 rfl [6,7,8,9,10,11,12,13,14,15,16,17,18,19,20,21,22,23,24,5,25,26,27,28,29,60,2] (Kq (g)) (factsOf [Is (.pointer (some ⟨g,0,none⟩)),Is (.pointer (some ⟨g,0,none⟩)),Is (.pointer (some ⟨g,0,none⟩)),Is (.pointer (some ⟨g,0,none⟩)),Is (.pointer (some ⟨g,10,none⟩)),Is (.slice zsa zsn zsc),Is (.pointer (some ⟨g,0,none⟩)),Is (.pointer (some ⟨g,0,none⟩)),Is (.pointer (some ⟨g,0,none⟩)),Is (.pointer (some ⟨g,0,none⟩)),Is (.pointer (some ⟨g,2,none⟩)),Is (.int .u64 m.m.s),Is (.pointer (some ⟨g,0,none⟩)),Is (.pointer (some ⟨g,0,none⟩)),Is (.pointer (some ⟨g,0,none⟩)),Is (.pointer (some ⟨g,0,none⟩)),Is (.pointer (some ⟨g,3,none⟩)),Is (.int .i64 m.m.c),(OwE (g+1) 65 7 tn (flatS TL) te),(OwE (g+1) 65 7 tn (flatS TL) te),(Ow (g+1) 65 7 tn (flatS TL)),Is (.int .i64 te),Is (.pointer (some ⟨g,0,none⟩)),Is (.pointer (some ⟨g,0,none⟩)),Is (.pointer (some ⟨g,4,none⟩)),Any9,Is (.int .i64 te)]) (Jo 25 (P0) (P1)) ?mono1 ?hj1 (by kernel_rfl) ?start1 ?steps1 ?fin1;case mono1=>exact factsOf_mono9 (mono9_cons (Is.mono9 _ _) (mono9_cons (Is.mono9 _ _) (mono9_cons (Is.mono9 _ _) (mono9_cons (Is.mono9 _ _) (mono9_cons (Is.mono9 _ _) (mono9_cons (Is.mono9 _ _) (mono9_cons (Is.mono9 _ _) (mono9_cons (Is.mono9 _ _) (mono9_cons (Is.mono9 _ _) (mono9_cons (Is.mono9 _ _) (mono9_cons (Is.mono9 _ _) (mono9_cons (Is.mono9 _ _) (mono9_cons (Is.mono9 _ _) (mono9_cons (Is.mono9 _ _) (mono9_cons (Is.mono9 _ _) (mono9_cons (Is.mono9 _ _) (mono9_cons (Is.mono9 _ _) (mono9_cons (Is.mono9 _ _) (mono9_cons (OwE.mono (Nat.lt_succ_self _) _ _ _ _ _) (mono9_cons (OwE.mono (Nat.lt_succ_self _) _ _ _ _ _) (mono9_cons (Ow.mono (Nat.lt_succ_self _) _ _ _ _) (mono9_cons (Is.mono9 _ _) (mono9_cons (Is.mono9 _ _) (mono9_cons (Is.mono9 _ _) (mono9_cons (Is.mono9 _ _) (mono9_cons (Any9.mono _) (mono9_cons (Is.mono9 _ _) (mono9_nil _))))))))))))))))))))))))))))
 case hj1=>exact Jo.congr (by decide)
 case start1=>exact ⟨fun _=>HP0.out,fun h=>by cases h⟩
 case fin1=>
  intro v9 L w9 hJ hall hF;have hQ:=hJ.p1 (hall 25 (by decide));have f6:v9 0=.pointer (some ⟨g,0,none⟩):=hF 0 (by decide) (by decide);have f7:v9 1=.pointer (some ⟨g,0,none⟩):=hF 1 (by decide) (by decide);have f8:v9 2=.pointer (some ⟨g,0,none⟩):=hF 2 (by decide) (by decide);have f9:v9 3=.pointer (some ⟨g,0,none⟩):=hF 3 (by decide) (by decide);have f10:v9 4=.pointer (some ⟨g,10,none⟩):=hF 4 (by decide) (by decide);have f11:v9 5=.slice zsa zsn zsc:=hF 5 (by decide) (by decide);have f12:v9 6=.pointer (some ⟨g,0,none⟩):=hF 6 (by decide) (by decide);have f13:v9 7=.pointer (some ⟨g,0,none⟩):=hF 7 (by decide) (by decide);have f14:v9 8=.pointer (some ⟨g,0,none⟩):=hF 8 (by decide) (by decide);have f15:v9 9=.pointer (some ⟨g,0,none⟩):=hF 9 (by decide) (by decide);have f16:v9 10=.pointer (some ⟨g,2,none⟩):=hF 10 (by decide) (by decide);have f17:v9 11=.int .u64 m.m.s:=hF 11 (by decide) (by decide);have f18:v9 12=.pointer (some ⟨g,0,none⟩):=hF 12 (by decide) (by decide);have f19:v9 13=.pointer (some ⟨g,0,none⟩):=hF 13 (by decide) (by decide);have f20:v9 14=.pointer (some ⟨g,0,none⟩):=hF 14 (by decide) (by decide);have f21:v9 15=.pointer (some ⟨g,0,none⟩):=hF 15 (by decide) (by decide);have f22:v9 16=.pointer (some ⟨g,3,none⟩):=hF 16 (by decide) (by decide);have f23:v9 17=.int .i64 m.m.c:=hF 17 (by decide) (by decide);have f26:v9 21=.int .i64 te:=hF 21 (by decide) (by decide);have f27:v9 22=.pointer (some ⟨g,0,none⟩):=hF 22 (by decide) (by decide);have f28:v9 23=.pointer (some ⟨g,0,none⟩):=hF 23 (by decide) (by decide);have f29:v9 24=.pointer (some ⟨g,4,none⟩):=hF 24 (by decide) (by decide);have f2:v9 26=.int .i64 te:=hF 26 (by decide) (by decide);clear hJ hall hF;simp only [putAll,List.set_cons_succ,List.set_cons_zero,Nat.reduceAdd,f6,f7,f8,f9,f10,f11,f12,f13,f14,f15,f16,f17,f18,f19,f20,f21,f22,f23,f26,f27,f28,f29,f2];clear f2 f6 f7 f8 f9 f10 f11 f12 f13 f14 f15 f16 f17 f18 f19 f20 f21 f22 f23 f26 f27 f28 f29;obtain ⟨xa,xc,hkq,hst,hbx⟩:=HR2.out _ hQ;have HKQ:=Lib.hid hkq;have HST:=Lib.hid hst;have hgl2:=hbx.lt;clear hQ hkq hst hbx;by_cases hte:te=0
  ·subst hte;obtain ⟨P4,hP4⟩:∃P4:World→Prop,P4=fun w1=>Ps9 g w1 ⟨⟨k,e,m.m.s,m.m.c,⟨xa,tn,xc⟩,so,⟨nda,ndn,ndc⟩,⟨nma,nmn,nmc⟩,⟨sya,syn,syc⟩,⟨rla,rln,rlc⟩,⟨zsa,zsn,zsc⟩⟩,⟨fia,fin,fic⟩,⟨n0,n1,n2⟩,v0,v1,v2,v3,v4,v5,v6,⟨tba,tbn,tbc⟩⟩ { m with m:={ m.m with sg:=TL } }∧Kq g w w1:=⟨_,rfl⟩
   have HP0:Hid (P4 w9.drew):=Lib.hid (by rw [hP4];exact ⟨HST.out.drew,HKQ.out.drew (Nat.le_of_lt hgl2)⟩);clear HST HKQ;go_wp2_with fail;refine wp_region_word (by kernel_rfl) 60 rfl [33,34,35,36,37,38,39,40,41,42,43,44,45,2] (Kq (g)) (factsOf [Is (.pointer (some ⟨g,0,none⟩)),Is (.pointer (some ⟨g,0,none⟩)),Is (.pointer (some ⟨g,0,none⟩)),Is (.pointer (some ⟨g,4,none⟩)),Is (.slice xa tn xc),Is (.pointer (some ⟨g,0,none⟩)),Is (.pointer (some ⟨g,0,none⟩)),Is (.pointer (some ⟨g,0,none⟩)),Is (.pointer (some ⟨g,10,none⟩)),Is (.slice zsa zsn zsc),Is (.int .i64 zsn),Is (.int .u64 zsn),Is (.int .i64 ck),Is (.int .i64 ck)]) (Jo 12 (P4) (P4)) ?mono4 ?hj4 (by kernel_rfl) ?start4 ?steps4 ?fin4;case mono4=>exact factsOf_mono9 (mono9_cons (Is.mono9 _ _) (mono9_cons (Is.mono9 _ _) (mono9_cons (Is.mono9 _ _) (mono9_cons (Is.mono9 _ _) (mono9_cons (Is.mono9 _ _) (mono9_cons (Is.mono9 _ _) (mono9_cons (Is.mono9 _ _) (mono9_cons (Is.mono9 _ _) (mono9_cons (Is.mono9 _ _) (mono9_cons (Is.mono9 _ _) (mono9_cons (Is.mono9 _ _) (mono9_cons (Is.mono9 _ _) (mono9_cons (Is.mono9 _ _) (mono9_cons (Is.mono9 _ _) (mono9_nil _)))))))))))))))
   case hj4=>exact Jo.congr (by decide)
   case start4=>exact ⟨fun _=>HP0.out,fun h=>by cases h⟩
   case fin4=>
    intro v9 L w9 hJ hall hF;have hQ:=hJ.p1 (hall 12 (by decide));have f33:v9 0=.pointer (some ⟨g,0,none⟩):=hF 0 (by decide) (by decide);have f34:v9 1=.pointer (some ⟨g,0,none⟩):=hF 1 (by decide) (by decide);have f35:v9 2=.pointer (some ⟨g,0,none⟩):=hF 2 (by decide) (by decide);have f36:v9 3=.pointer (some ⟨g,4,none⟩):=hF 3 (by decide) (by decide);have f37:v9 4=.slice xa tn xc:=hF 4 (by decide) (by decide);have f38:v9 5=.pointer (some ⟨g,0,none⟩):=hF 5 (by decide) (by decide);have f39:v9 6=.pointer (some ⟨g,0,none⟩):=hF 6 (by decide) (by decide);have f40:v9 7=.pointer (some ⟨g,0,none⟩):=hF 7 (by decide) (by decide);have f41:v9 8=.pointer (some ⟨g,10,none⟩):=hF 8 (by decide) (by decide);have f42:v9 9=.slice zsa zsn zsc:=hF 9 (by decide) (by decide);have f43:v9 10=.int .i64 zsn:=hF 10 (by decide) (by decide);have f44:v9 11=.int .u64 zsn:=hF 11 (by decide) (by decide);have f45:v9 12=.int .i64 ck:=hF 12 (by decide) (by decide);have f2:v9 13=.int .i64 ck:=hF 13 (by decide) (by decide);clear hJ hall hF;simp only [putAll,List.set_cons_succ,List.set_cons_zero,Nat.reduceAdd,f33,f34,f35,f36,f37,f38,f39,f40,f41,f42,f43,f44,f45,f2];clear f2 f33 f34 f35 f36 f37 f38 f39 f40 f41 f42 f43 f44 f45;rw [hP4] at hQ;have HST4:=Lib.hid hQ.1;have HKQ4:=Lib.hid hQ.2;have q4:w9.cell? ⟨g,4,none⟩=some (.slice xa tn xc):=hQ.1.box.cell 4;have hgl4:=hQ.1.lt;clear hQ;by_cases hck0:ck=0
    ·subst hck0;cases hf:TL.find? (kindB 1) with
     | none=>
       obtain rfl:=HZ3.out (by first | rfl | trivial) (by first | rfl | trivial) hf;have HF:=Lib.hid (HFD.out _ _ _ HST4.out);rw [hf] at HF;simp only [foundV,sg0,Sg.val,Option.isSome_none] at HF;clear hf;go_wp2_with fail;refine HF.out.mono ?_;rintro r w4 ⟨rfl,hb4⟩;have HK4:Hid (∀o,Kq g w (w4.alloc o)):=Lib.hid (fun o=>(HKQ4.out.trans (Kq.later (Nat.le_of_lt hgl4) hb4)).alloc (by have:=hb4.size;omega) o);clear hb4;go_wp2;go_ret;exact ⟨rfl,fun e=>(by cases e),HK4.out _⟩
     | some d=>
       obtain rfl:=HZ4.out (by first | rfl | trivial) (by first | rfl | trivial) (by rw [hf];simp);have HF:=Lib.hid (HFD.out _ _ _ HST4.out);rw [hf] at HF;obtain ⟨d0,d1,d2,d3,d4,d5,d6⟩:=d;simp only [foundV,Sg.val,Option.isSome_some] at HF;clear hf;go_wp2_with fail;refine HF.out.mono ?_;rintro r w4 ⟨rfl,hb4⟩;have HK4:Hid (∀o,Kq g w (w4.alloc o)):=Lib.hid (fun o=>(HKQ4.out.trans (Kq.later (Nat.le_of_lt hgl4) hb4)).alloc (by have:=hb4.size;omega) o);have HS4:=Lib.hid (fun o=>(HST4.out.later hb4).alloc o);clear hb4;go_wp2;go_ret;exact ⟨rfl,fun _=>⟨_,HS4.out _⟩,HK4.out _⟩
    ·obtain rfl:=HZ2.out (by first | rfl | trivial) hck0;have hckb:(ck != 0)=true:=by rw [bne_iff_ne];exact hck0
     go_wp2;go_ret;exact ⟨rfl,fun e=>absurd e hck0,HKQ4.out⟩
   case steps4=>
    refine ⟨?_,?_,?_,?_,?_,?_,?_,?_,?_,?_,?_,?_,?_,?_,trivial⟩;all_goals intro L y w9 hJ hL hy0 hp0 hcl hun
    all_goals have hy:=Lib.hid hy0
    all_goals have hp:=Lib.hid hp0
    all_goals clear hy0 hp0 hun
    ·have e1:y 0=.pointer (some ⟨g,0,none⟩):=hy.out 0 (by decide);have hJ3:=Lib.hid (hJ.pure (show (12:Nat)≠0 by decide));intro K Q hK;clear hcl hJ;obtain ⟨A,hA,v1⟩:=evA1 (n:=60) e1 (by decide);rw [hA] at hK⊢;clear hA hy hp;go_simp;exact hK _ _ ⟨Kq.refl _ _,fun _=>rfl,hJ3.out⟩
    ·have e1:y 33=.pointer (some ⟨g,0,none⟩):=(hp.out 0 (by decide)).2 (by decide);have hJ3:=Lib.hid (hJ.pure (show (12:Nat)≠1 by decide));intro K Q hK;clear hcl hJ;obtain ⟨A,hA,v1⟩:=evA1 (n:=60) e1 (by decide);rw [hA] at hK⊢;clear hA hy hp;go_simp;exact hK _ _ ⟨Kq.refl _ _,fun _=>rfl,hJ3.out⟩
    ·have e1:y 34=.pointer (some ⟨g,0,none⟩):=(hp.out 1 (by decide)).2 (by decide);have hJ3:=Lib.hid (hJ.pure (show (12:Nat)≠2 by decide));intro K Q hK;clear hcl hJ;obtain ⟨A,hA,v1⟩:=evA1 (n:=60) e1 (by decide);rw [hA] at hK⊢;clear hA hy hp;go_simp;exact hK _ _ ⟨Kq.refl _ _,fun _=>rfl,hJ3.out⟩
    ·have e1:y 35=.pointer (some ⟨g,0,none⟩):=(hp.out 2 (by decide)).2 (by decide);have hJ3:=Lib.hid (hJ.pure (show (12:Nat)≠3 by decide));intro K Q hK;clear hcl hJ;obtain ⟨A,hA,v1⟩:=evA1 (n:=60) e1 (by decide);rw [hA] at hK⊢;clear hA hy hp;go_simp;exact hK _ _ ⟨Kq.refl _ _,fun _=>rfl,hJ3.out⟩
    ·have e1:y 36=.pointer (some ⟨g,4,none⟩):=(hp.out 3 (by decide)).2 (by decide);have hLj:L 12=false:=by
      cases h:L 12 with
      | false=>rfl
      | true=>have:=(hcl 12 _ rfl h 4 (by decide));rw [hL] at this;cases this
     have hP:=Lib.hid (hJ.p0 hLj);have q4:w9.cell? ⟨g,4,none⟩=some (.slice xa tn xc):=(show Blk w9 g _ _ from (by have h9:=hP.out;rw [hP4] at h9;exact h9.1.box)).cell 4;have hJ3:=Lib.hid (hJ.pure (show (12:Nat)≠4 by decide));intro K Q hK;clear hcl hJ;obtain ⟨A,hA,v1⟩:=evA1 (n:=60) e1 (by decide);rw [hA] at hK⊢;clear hA hy hp;go_simp;exact hK _ _ ⟨Kq.refl _ _,fun _=>rfl,hJ3.out⟩
    ·have e1:y 0=.pointer (some ⟨g,0,none⟩):=hy.out 0 (by decide);have hJ3:=Lib.hid (hJ.pure (show (12:Nat)≠5 by decide));intro K Q hK;clear hcl hJ;obtain ⟨A,hA,v1⟩:=evA1 (n:=60) e1 (by decide);rw [hA] at hK⊢;clear hA hy hp;go_simp;exact hK _ _ ⟨Kq.refl _ _,fun _=>rfl,hJ3.out⟩
    ·have e1:y 38=.pointer (some ⟨g,0,none⟩):=(hp.out 5 (by decide)).2 (by decide);have hJ3:=Lib.hid (hJ.pure (show (12:Nat)≠6 by decide));intro K Q hK;clear hcl hJ;obtain ⟨A,hA,v1⟩:=evA1 (n:=60) e1 (by decide);rw [hA] at hK⊢;clear hA hy hp;go_simp;exact hK _ _ ⟨Kq.refl _ _,fun _=>rfl,hJ3.out⟩
    ·have e1:y 39=.pointer (some ⟨g,0,none⟩):=(hp.out 6 (by decide)).2 (by decide);have hJ3:=Lib.hid (hJ.pure (show (12:Nat)≠7 by decide));intro K Q hK;clear hcl hJ;obtain ⟨A,hA,v1⟩:=evA1 (n:=60) e1 (by decide);rw [hA] at hK⊢;clear hA hy hp;go_simp;exact hK _ _ ⟨Kq.refl _ _,fun _=>rfl,hJ3.out⟩
    ·have e1:y 40=.pointer (some ⟨g,0,none⟩):=(hp.out 7 (by decide)).2 (by decide);have hJ3:=Lib.hid (hJ.pure (show (12:Nat)≠8 by decide));intro K Q hK;clear hcl hJ;obtain ⟨A,hA,v1⟩:=evA1 (n:=60) e1 (by decide);rw [hA] at hK⊢;clear hA hy hp;go_simp;exact hK _ _ ⟨Kq.refl _ _,fun _=>rfl,hJ3.out⟩
    ·have e1:y 41=.pointer (some ⟨g,10,none⟩):=(hp.out 8 (by decide)).2 (by decide);have hLj:L 12=false:=by
      cases h:L 12 with
      | false=>rfl
      | true=>have:=(hcl 10 _ rfl (hcl 11 _ rfl (hcl 12 _ rfl h 11 (by decide)) 10 (by decide)) 9 (by decide));rw [hL] at this;cases this
     have hP:=Lib.hid (hJ.p0 hLj);have q10:w9.cell? ⟨g,10,none⟩=some (.slice zsa zsn zsc):=(show Blk w9 g _ _ from (by have h9:=hP.out;rw [hP4] at h9;exact h9.1.box)).cell 10;have hJ3:=Lib.hid (hJ.pure (show (12:Nat)≠9 by decide));intro K Q hK;clear hcl hJ;obtain ⟨A,hA,v1⟩:=evA1 (n:=60) e1 (by decide);rw [hA] at hK⊢;clear hA hy hp;go_simp;exact hK _ _ ⟨Kq.refl _ _,fun _=>rfl,hJ3.out⟩
    ·have e1:y 42=.slice zsa zsn zsc:=(hp.out 9 (by decide)).2 (by decide);have hJ3:=Lib.hid (hJ.pure (show (12:Nat)≠10 by decide));intro K Q hK;clear hcl hJ;obtain ⟨A,hA,v1⟩:=evA1 (n:=60) e1 (by decide);rw [hA] at hK⊢;clear hA hy hp;go_simp;exact hK _ _ ⟨Kq.refl _ _,fun _=>rfl,hJ3.out⟩
    ·have e1:y 43=.int .i64 zsn:=(hp.out 10 (by decide)).2 (by decide);have hJ3:=Lib.hid (hJ.pure (show (12:Nat)≠11 by decide));intro K Q hK;clear hcl hJ;obtain ⟨A,hA,v1⟩:=evA1 (n:=60) e1 (by decide);rw [hA] at hK⊢;clear hA hy hp;go_simp;exact hK _ _ ⟨Kq.refl _ _,fun _=>by rw [HW1.out];rfl,hJ3.out⟩
    ·have e1:y 37=.slice xa tn xc:=(hp.out 4 (by decide)).2 (by decide);have e2:y 44=.int .u64 zsn:=(hp.out 11 (by decide)).2 (by decide);have hP:=Lib.hid (hJ.p0 hL);have hst4:=hP.out;rw [hP4] at hst4;have hlt4:=hst4.1.lt;intro K Q hK;clear hcl hJ;obtain ⟨A,hA,v1,v2⟩:=evA2 (n:=60) e1 e2 (by decide) (by decide);rw [hA] at hK⊢;clear hA hy hp;go_simp;go_at_call 47
     refine (HCK.out _ _ _ hst4.1).mono ?_;rintro r w7 ⟨rfl,hb7⟩;have hk7:Kq g w9 w7:=Kq.later (Nat.le_of_lt hlt4) hb7;exact hK _ _ ⟨hk7,fun _=>rfl,Jo.second (by rw [hP4];exact ⟨hst4.1.later hb7,hst4.2.trans hk7⟩)⟩
    ·have e1:y 45=.int .i64 ck:=(hp.out 12 (by decide)).2 (by decide);have hJ3:=Lib.hid (hJ.pure (show (12:Nat)≠13 by decide));intro K Q hK;clear hcl hJ;obtain ⟨A,hA,v1⟩:=evA1 (n:=60) e1 (by decide);rw [hA] at hK⊢;clear hA hy hp;go_simp;exact hK _ _ ⟨Kq.refl _ _,fun _=>rfl,hJ3.out⟩
  ·obtain rfl:=HZ1.out hte;have hteb:(te != 0)=true:=by rw [bne_iff_ne];exact hte
   go_wp2;go_ret;exact ⟨rfl,fun e=>absurd e hte,HKQ.out⟩
 case steps1=>
  refine ⟨?_,?_,?_,?_,?_,?_,?_,?_,?_,?_,?_,?_,?_,?_,?_,?_,?_,?_,?_,?_,?_,?_,?_,?_,?_,?_,?_,trivial⟩;all_goals intro L y w9 hJ hL hy0 hp0 hcl hun
  all_goals have hy:=Lib.hid hy0
  all_goals have hp:=Lib.hid hp0
  all_goals clear hy0 hp0 hun
  ·have e1:y 0=.pointer (some ⟨g,0,none⟩):=hy.out 0 (by decide);have hJ3:=Lib.hid (hJ.pure (show (25:Nat)≠0 by decide));intro K Q hK;clear hcl hJ;obtain ⟨A,hA,v1⟩:=evA1 (n:=60) e1 (by decide);rw [hA] at hK⊢;clear hA hy hp;go_simp;exact hK _ _ ⟨Kq.refl _ _,fun _=>rfl,hJ3.out⟩
  ·have e1:y 0=.pointer (some ⟨g,0,none⟩):=hy.out 0 (by decide);have hJ3:=Lib.hid (hJ.pure (show (25:Nat)≠1 by decide));intro K Q hK;clear hcl hJ;obtain ⟨A,hA,v1⟩:=evA1 (n:=60) e1 (by decide);rw [hA] at hK⊢;clear hA hy hp;go_simp;exact hK _ _ ⟨Kq.refl _ _,fun _=>rfl,hJ3.out⟩
  ·have e1:y 7=.pointer (some ⟨g,0,none⟩):=(hp.out 1 (by decide)).2 (by decide);have hJ3:=Lib.hid (hJ.pure (show (25:Nat)≠2 by decide));intro K Q hK;clear hcl hJ;obtain ⟨A,hA,v1⟩:=evA1 (n:=60) e1 (by decide);rw [hA] at hK⊢;clear hA hy hp;go_simp;exact hK _ _ ⟨Kq.refl _ _,fun _=>rfl,hJ3.out⟩
  ·have e1:y 8=.pointer (some ⟨g,0,none⟩):=(hp.out 2 (by decide)).2 (by decide);have hJ3:=Lib.hid (hJ.pure (show (25:Nat)≠3 by decide));intro K Q hK;clear hcl hJ;obtain ⟨A,hA,v1⟩:=evA1 (n:=60) e1 (by decide);rw [hA] at hK⊢;clear hA hy hp;go_simp;exact hK _ _ ⟨Kq.refl _ _,fun _=>rfl,hJ3.out⟩
  ·have e1:y 9=.pointer (some ⟨g,0,none⟩):=(hp.out 3 (by decide)).2 (by decide);have hJ3:=Lib.hid (hJ.pure (show (25:Nat)≠4 by decide));intro K Q hK;clear hcl hJ;obtain ⟨A,hA,v1⟩:=evA1 (n:=60) e1 (by decide);rw [hA] at hK⊢;clear hA hy hp;go_simp;exact hK _ _ ⟨Kq.refl _ _,fun _=>rfl,hJ3.out⟩
  ·have e1:y 10=.pointer (some ⟨g,10,none⟩):=(hp.out 4 (by decide)).2 (by decide);have hLj:L 25=false:=by
    cases h:L 25 with
    | false=>rfl
    | true=>have:=(hcl 18 _ rfl (hcl 19 _ rfl (hcl 20 _ rfl (hcl 25 _ rfl h 20 (by decide)) 19 (by decide)) 18 (by decide)) 5 (by decide));rw [hL] at this;cases this
   have hP:=Lib.hid (hJ.p0 hLj);have q10:w9.cell? ⟨g,10,none⟩=some (.slice zsa zsn zsc):=(HPB.out _ hP.out).cell 10;have hJ3:=Lib.hid (hJ.pure (show (25:Nat)≠5 by decide));intro K Q hK;clear hcl hJ;obtain ⟨A,hA,v1⟩:=evA1 (n:=60) e1 (by decide);rw [hA] at hK⊢;clear hA hy hp;go_simp;exact hK _ _ ⟨Kq.refl _ _,fun _=>rfl,hJ3.out⟩
  ·have e1:y 0=.pointer (some ⟨g,0,none⟩):=hy.out 0 (by decide);have hJ3:=Lib.hid (hJ.pure (show (25:Nat)≠6 by decide));intro K Q hK;clear hcl hJ;obtain ⟨A,hA,v1⟩:=evA1 (n:=60) e1 (by decide);rw [hA] at hK⊢;clear hA hy hp;go_simp;exact hK _ _ ⟨Kq.refl _ _,fun _=>rfl,hJ3.out⟩
  ·have e1:y 12=.pointer (some ⟨g,0,none⟩):=(hp.out 6 (by decide)).2 (by decide);have hJ3:=Lib.hid (hJ.pure (show (25:Nat)≠7 by decide));intro K Q hK;clear hcl hJ;obtain ⟨A,hA,v1⟩:=evA1 (n:=60) e1 (by decide);rw [hA] at hK⊢;clear hA hy hp;go_simp;exact hK _ _ ⟨Kq.refl _ _,fun _=>rfl,hJ3.out⟩
  ·have e1:y 13=.pointer (some ⟨g,0,none⟩):=(hp.out 7 (by decide)).2 (by decide);have hJ3:=Lib.hid (hJ.pure (show (25:Nat)≠8 by decide));intro K Q hK;clear hcl hJ;obtain ⟨A,hA,v1⟩:=evA1 (n:=60) e1 (by decide);rw [hA] at hK⊢;clear hA hy hp;go_simp;exact hK _ _ ⟨Kq.refl _ _,fun _=>rfl,hJ3.out⟩
  ·have e1:y 14=.pointer (some ⟨g,0,none⟩):=(hp.out 8 (by decide)).2 (by decide);have hJ3:=Lib.hid (hJ.pure (show (25:Nat)≠9 by decide));intro K Q hK;clear hcl hJ;obtain ⟨A,hA,v1⟩:=evA1 (n:=60) e1 (by decide);rw [hA] at hK⊢;clear hA hy hp;go_simp;exact hK _ _ ⟨Kq.refl _ _,fun _=>rfl,hJ3.out⟩
  ·have e1:y 15=.pointer (some ⟨g,0,none⟩):=(hp.out 9 (by decide)).2 (by decide);have hJ3:=Lib.hid (hJ.pure (show (25:Nat)≠10 by decide));intro K Q hK;clear hcl hJ;obtain ⟨A,hA,v1⟩:=evA1 (n:=60) e1 (by decide);rw [hA] at hK⊢;clear hA hy hp;go_simp;exact hK _ _ ⟨Kq.refl _ _,fun _=>rfl,hJ3.out⟩
  ·have e1:y 16=.pointer (some ⟨g,2,none⟩):=(hp.out 10 (by decide)).2 (by decide);have hLj:L 25=false:=by
    cases h:L 25 with
    | false=>rfl
    | true=>have:=(hcl 18 _ rfl (hcl 19 _ rfl (hcl 20 _ rfl (hcl 25 _ rfl h 20 (by decide)) 19 (by decide)) 18 (by decide)) 11 (by decide));rw [hL] at this;cases this
   have hP:=Lib.hid (hJ.p0 hLj);have q2:w9.cell? ⟨g,2,none⟩=some (.int .u64 m.m.s):=(HPB.out _ hP.out).cell 2;have hJ3:=Lib.hid (hJ.pure (show (25:Nat)≠11 by decide));intro K Q hK;clear hcl hJ;obtain ⟨A,hA,v1⟩:=evA1 (n:=60) e1 (by decide);rw [hA] at hK⊢;clear hA hy hp;go_simp;exact hK _ _ ⟨Kq.refl _ _,fun _=>rfl,hJ3.out⟩
  ·have e1:y 0=.pointer (some ⟨g,0,none⟩):=hy.out 0 (by decide);have hJ3:=Lib.hid (hJ.pure (show (25:Nat)≠12 by decide));intro K Q hK;clear hcl hJ;obtain ⟨A,hA,v1⟩:=evA1 (n:=60) e1 (by decide);rw [hA] at hK⊢;clear hA hy hp;go_simp;exact hK _ _ ⟨Kq.refl _ _,fun _=>rfl,hJ3.out⟩
  ·have e1:y 18=.pointer (some ⟨g,0,none⟩):=(hp.out 12 (by decide)).2 (by decide);have hJ3:=Lib.hid (hJ.pure (show (25:Nat)≠13 by decide));intro K Q hK;clear hcl hJ;obtain ⟨A,hA,v1⟩:=evA1 (n:=60) e1 (by decide);rw [hA] at hK⊢;clear hA hy hp;go_simp;exact hK _ _ ⟨Kq.refl _ _,fun _=>rfl,hJ3.out⟩
  ·have e1:y 19=.pointer (some ⟨g,0,none⟩):=(hp.out 13 (by decide)).2 (by decide);have hJ3:=Lib.hid (hJ.pure (show (25:Nat)≠14 by decide));intro K Q hK;clear hcl hJ;obtain ⟨A,hA,v1⟩:=evA1 (n:=60) e1 (by decide);rw [hA] at hK⊢;clear hA hy hp;go_simp;exact hK _ _ ⟨Kq.refl _ _,fun _=>rfl,hJ3.out⟩
  ·have e1:y 20=.pointer (some ⟨g,0,none⟩):=(hp.out 14 (by decide)).2 (by decide);have hJ3:=Lib.hid (hJ.pure (show (25:Nat)≠15 by decide));intro K Q hK;clear hcl hJ;obtain ⟨A,hA,v1⟩:=evA1 (n:=60) e1 (by decide);rw [hA] at hK⊢;clear hA hy hp;go_simp;exact hK _ _ ⟨Kq.refl _ _,fun _=>rfl,hJ3.out⟩
  ·have e1:y 21=.pointer (some ⟨g,0,none⟩):=(hp.out 15 (by decide)).2 (by decide);have hJ3:=Lib.hid (hJ.pure (show (25:Nat)≠16 by decide));intro K Q hK;clear hcl hJ;obtain ⟨A,hA,v1⟩:=evA1 (n:=60) e1 (by decide);rw [hA] at hK⊢;clear hA hy hp;go_simp;exact hK _ _ ⟨Kq.refl _ _,fun _=>rfl,hJ3.out⟩
  ·have e1:y 22=.pointer (some ⟨g,3,none⟩):=(hp.out 16 (by decide)).2 (by decide);have hLj:L 25=false:=by
    cases h:L 25 with
    | false=>rfl
    | true=>have:=(hcl 18 _ rfl (hcl 19 _ rfl (hcl 20 _ rfl (hcl 25 _ rfl h 20 (by decide)) 19 (by decide)) 18 (by decide)) 17 (by decide));rw [hL] at this;cases this
   have hP:=Lib.hid (hJ.p0 hLj);have q3:w9.cell? ⟨g,3,none⟩=some (.int .i64 m.m.c):=(HPB.out _ hP.out).cell 3;have hJ3:=Lib.hid (hJ.pure (show (25:Nat)≠17 by decide));intro K Q hK;clear hcl hJ;obtain ⟨A,hA,v1⟩:=evA1 (n:=60) e1 (by decide);rw [hA] at hK⊢;clear hA hy hp;go_simp;exact hK _ _ ⟨Kq.refl _ _,fun _=>rfl,hJ3.out⟩
  ·have e1:y 11=.slice zsa zsn zsc:=(hp.out 5 (by decide)).2 (by decide);have e2:y 17=.int .u64 m.m.s:=(hp.out 11 (by decide)).2 (by decide);have e3:y 23=.int .i64 m.m.c:=(hp.out 17 (by decide)).2 (by decide);have hLj:L 25=false:=by
    cases h:L 25 with
    | false=>rfl
    | true=>have:=(hcl 19 _ rfl (hcl 20 _ rfl (hcl 25 _ rfl h 20 (by decide)) 19 (by decide)) 18 (by decide));rw [hL] at this;cases this
   have hP:=Lib.hid (hJ.p0 hLj);intro K Q hK;clear hcl hJ;obtain ⟨A,hA,v1,v2,v3⟩:=evA3 (n:=60) e1 e2 e3 (by decide) (by decide) (by decide);rw [hA] at hK⊢;clear hA hy hp;go_simp;go_at_call 46
   refine (HPC.out _ hP.out).mono ?_;rintro r w7 ⟨⟨u,rfl,ho⟩,hp7,hk7⟩;exact hK _ _ ⟨hk7,fun _=>⟨u,rfl,ho⟩,Jo.call (by decide) hLj hp7⟩
  ·have e1:(OwE (g+1) 65 7 tn (flatS TL) te) (y 24) w9:=(hp.out 18 (by decide)).2 (by decide);obtain ⟨u1,hv1,ho1⟩:=e1;have hJ3:=Lib.hid (hJ.pure (show (25:Nat)≠19 by decide));intro K Q hK;clear hcl hJ;obtain ⟨A,hA,v1⟩:=evA1 (n:=60) hv1 (by decide);rw [hA] at hK⊢;clear hA hy hp;go_simp;exact hK _ _ ⟨Kq.refl _ _,fun _=>⟨_,rfl,ho1⟩,hJ3.out⟩
  ·have e1:(OwE (g+1) 65 7 tn (flatS TL) te) (y 5) w9:=(hp.out 19 (by decide)).2 (by decide);obtain ⟨u1,hv1,ho1⟩:=e1;have hJ3:=Lib.hid (hJ.pure (show (25:Nat)≠20 by decide));intro K Q hK;clear hcl hJ;obtain ⟨A,hA,v1⟩:=evA1 (n:=60) hv1 (by decide);rw [hA] at hK⊢;clear hA hy hp;go_simp;exact hK _ _ ⟨Kq.refl _ _,fun _=>ho1,hJ3.out⟩
  ·have e1:(OwE (g+1) 65 7 tn (flatS TL) te) (y 5) w9:=(hp.out 19 (by decide)).2 (by decide);obtain ⟨u1,hv1,ho1⟩:=e1;have hJ3:=Lib.hid (hJ.pure (show (25:Nat)≠21 by decide));intro K Q hK;clear hcl hJ;obtain ⟨A,hA,v1⟩:=evA1 (n:=60) hv1 (by decide);rw [hA] at hK⊢;clear hA hy hp;go_simp;exact hK _ _ ⟨Kq.refl _ _,fun _=>rfl,hJ3.out⟩
  ·have e1:y 6=.pointer (some ⟨g,0,none⟩):=(hp.out 0 (by decide)).2 (by decide);have hJ3:=Lib.hid (hJ.pure (show (25:Nat)≠22 by decide));intro K Q hK;clear hcl hJ;obtain ⟨A,hA,v1⟩:=evA1 (n:=60) e1 (by decide);rw [hA] at hK⊢;clear hA hy hp;go_simp;exact hK _ _ ⟨Kq.refl _ _,fun _=>rfl,hJ3.out⟩
  ·have e1:y 27=.pointer (some ⟨g,0,none⟩):=(hp.out 22 (by decide)).2 (by decide);have hJ3:=Lib.hid (hJ.pure (show (25:Nat)≠23 by decide));intro K Q hK;clear hcl hJ;obtain ⟨A,hA,v1⟩:=evA1 (n:=60) e1 (by decide);rw [hA] at hK⊢;clear hA hy hp;go_simp;exact hK _ _ ⟨Kq.refl _ _,fun _=>rfl,hJ3.out⟩
  ·have e1:y 28=.pointer (some ⟨g,0,none⟩):=(hp.out 23 (by decide)).2 (by decide);have hJ3:=Lib.hid (hJ.pure (show (25:Nat)≠24 by decide));intro K Q hK;clear hcl hJ;obtain ⟨A,hA,v1⟩:=evA1 (n:=60) e1 (by decide);rw [hA] at hK⊢;clear hA hy hp;go_simp;exact hK _ _ ⟨Kq.refl _ _,fun _=>rfl,hJ3.out⟩
  ·have e1:y 29=.pointer (some ⟨g,4,none⟩):=(hp.out 24 (by decide)).2 (by decide);have e2:(Ow (g+1) 65 7 tn (flatS TL)) (y 25) w9:=(hp.out 20 (by decide)).2 (by decide);obtain ⟨⟨xa,xn,xc⟩,-,hxn,hv2⟩:=own_sh e2;simp only at hxn hv2;subst hxn;have hP:=Lib.hid (hJ.p0 hL);obtain ⟨z0,z1,z2⟩:=HFZ.out _ hP.out;have hps:=HPS.out _ xa xc hP.out (by have e:=e2;rw [hv2] at e;exact e);intro K Q hK;clear hcl hJ;obtain ⟨A,hA,v1,v2⟩:=evA2 (n:=60) e1 hv2 (by decide) (by decide);rw [hA] at hK⊢;clear hA hy hp;go_simp;exact hK undef _ ⟨hps.2,fun h=>absurd h (by decide),Jo.second hps.1⟩
  ·have e1:y 26=.int .i64 te:=(hp.out 21 (by decide)).2 (by decide);have hJ3:=Lib.hid (hJ.pure (show (25:Nat)≠26 by decide));intro K Q hK;clear hcl hJ;obtain ⟨A,hA,v1⟩:=evA1 (n:=60) e1 (by decide);rw [hA] at hK⊢;clear hA hy hp;go_simp;exact hK _ _ ⟨Kq.refl _ _,fun _=>rfl,hJ3.out⟩
end Go.Proofs.YtclgbdfkdbbinaaGreat
