/-
  What is proved here: words and contracts, a part of those that the statement rests on (B9).
  Conditions: none but that the arguments are values of their types.
-/
import Derived.Test.YtclgbdfkdbbinaaGreatB0
import Derived.Test.YtclgbdfkdbbinaaGreatB8
import Derived.Test.YtclgbdfkdbbinaaGreatB4
import Derived.Test.YtclgbdfkdbbinaaGreatB3
import Derived.Test.YtclgbdfkdbbinaaGreatB2
import Derived.Test.YtclgbdfkdbbinaaGreatB7
set_option linter.unusedVariables false
set_option linter.unusedSimpArgs false
set_option maxRecDepth 100000
set_option maxHeartbeats 12800000
namespace Go.Proofs.YtclgbdfkdbbinaaGreat
open Go.RowKit
theorem nA (B:Nat) (a:Option Addr) (len cap:Nat) (zs:List Int) (p s:Int) (w:World) (hb:Bys w B a len zs) (hB:B≤w.heap.size) (hcap:len≤cap) (hcm:(cap:Int)≤9223372036854775807) (hl:len≤140737488355328) (p0:0≤p) (p1:p≤18446744073709551615) (s0:0≤s) (s1:s≤18446744073709551615) :
 Calls Tryz.prog 49 #[.slice a len cap,.int .u64 p,.int .u64 s] w (gz (fm zs p s) w):=by
 have hz:=hb.1;unfold fm;by_cases h:(zs.length:Int)<p+s
 ·rw [if_pos h];refine (lO a len cap p s w oZm p0 p1 s0 s1 oZm).mono ?_;rintro e w' ⟨rfl,rfl⟩;exact ⟨⟨_,rfl,World.ownsRow_nil _ _ _ _⟩,Below.refl _ _⟩
 ·rw [if_neg h];obtain ⟨P,rfl⟩:=Int.eq_ofNat_of_zero_le p0;obtain ⟨S,rfl⟩:=Int.eq_ofNat_of_zero_le s0;rw [Int.toNat_natCast,Int.toNat_natCast];refine (tx B a len cap zs P S w hb hB hcap hcm hl oZm).mono ?_;rintro e w' ⟨rfl,ho,hbel⟩;refine ⟨⟨_,rfl,?_⟩,hbel⟩;have e:(am zs P S).length=S:=cB oZm;rw [e];exact ho
theorem gI (g:Nat) (p:Pz) (m:Pm) (addr size:Int) (w:World) (h:Ps9 g w p m) (a0:0≤addr) (a1:addr≤18446744073709551615) (s0:0≤size) (s1:size≤18446744073709551615) :
 Calls Tryz.prog 100 #[.pointer (some ⟨g,0,none⟩),.int .u64 addr,.int .u64 size] w (gz (aH m.m.sg m.m.zs addr size) w):=by
 have HPL:Hid (Calls Tryz.prog 141 #[.slice p.x.sg.a p.x.sg.n p.x.sg.c,.int .u64 addr,.int .u64 size] w fun e w'=>e=.returned (.tuple #[.int .u64 (dr m.m.sg addr size).2,.int .i64 (dr m.m.sg addr size).1])∧Below w.heap.size w w'):=hZz (by
  have:=oN w.heap.size p.x.sg.a p.x.sg.n p.x.sg.c m.m.sg addr size w h.seg.1 (lZr _) (by have h1:=h.seg.2.1;have h2:=h.seg.2.2;omega) a0 a1 s0 s1;rw [rh] at this;exact this)
 have HCU:Hid (∀w1,Below w.heap.size w w1→Calls Tryz.prog 49 #[.slice p.x.zs.a p.x.zs.n p.x.zs.c,.int .u64 (dr m.m.sg addr size).2,.int .u64 size] w1 (gz (fm m.m.zs (dr m.m.sg addr size).2 size) w1)):=hZz (fun w1 h1=>by
  have h2:=h.bys;exact nA w.heap.size p.x.zs.a p.x.zs.n p.x.zs.c m.m.zs _ size w1 (h2.1.below h1) h1.size h2.2.1 h2.2.2.1 oZm (jz _ _ _).1 (jz _ _ _).2 s0 s1)
 have HK:Hid (∀w1,Below w.heap.size w w1→Blk w1 g p.cells 72):=hZz (fun w1 h1=>h.box.later h1);have hgl:=h.lt;unfold aH;generalize dr m.m.sg addr size=P at HPL HCU;generalize fm m.m.zs P.2 size=Z at HCU;obtain ⟨pe,pp⟩:=P;obtain ⟨⟨k,e,s,c,⟨sga,sgn,sgc⟩,so,⟨nda,ndn,ndc⟩,⟨nma,nmn,nmc⟩,⟨sya,syn,syc⟩,⟨rla,rln,rlc⟩,⟨zsa,zsn,zsc⟩⟩,⟨fia,fin,fic⟩,⟨n0,n1,n2⟩,v0,v1,v2,v3,v4,v5,v6,⟨tba,tbn,tbc⟩⟩:=p;clear h;simp only at HPL HCU⊢;have q4:w.cell? ⟨g,4,none⟩=some (.slice sga sgn sgc):=(HK.out w (Below.refl _ _)).cell 4;by_cases hpe:pe=0
 ·subst hpe;rw [if_neg (by simp)];go_enter Tryz.func100,Tryz.ntmps100
  go_wp2_with fail;refine HPL.out.mono ?_;rintro r w2 ⟨rfl,hb2⟩;have HB2:=hZz hb2;have q10:w2.cell? ⟨g,10,none⟩=some (.slice zsa zsn zsc):=(HK.out w2 hb2).cell 10;have hgl2:=(HK.out w2 hb2).lt;clear hb2;go_wp2_with fail;refine (HCU.out _ HB2.out).mono ?_;rintro r w3 ⟨⟨u,rfl,ho⟩,hb3⟩;have HO:=hZz (bL ho HB2.out.size);have HB3:=hZz (HB2.out.trans (hb3.mono HB2.out.size));clear ho hb3;go_wp2;go_ret2;exact ⟨⟨_,rfl,HO.out⟩,HB3.out⟩
 ·rw [if_pos hpe];have hpb:(pe != 0)=true:=by simpa using hpe
  go_enter Tryz.func100,Tryz.ntmps100
  go_wp2_with fail;refine HPL.out.mono ?_;rintro r w2 ⟨rfl,hb2⟩;have HB2:=hZz hb2;clear hb2;go_wp2;go_ret2;exact ⟨⟨_,rfl,World.ownsRow_nil _ _ _ _⟩,HB2.out⟩
def iP (m:Pm):Int×Pm:=if 65536<m.f.length then (13,m) else (0,{ m with m:={ m.m with zs:=m.f } })
theorem sX (g:Nat):fp g 19 iP:=by
 intro p m w h;have H:=hZz h;have hfl:=h.fil.1;have hgl:=h.lt;have HK:Hid (∀w1,Below w.heap.size w w1→Blk w1 g p.cells 72):=hZz (fun w1 h1=>h.box.later h1);obtain ⟨p,hp⟩:∃q:Pz,q=p:=⟨_,rfl⟩
 obtain ⟨⟨k,e,s,c,⟨sga,sgn,sgc⟩,so,⟨nda,ndn,ndc⟩,⟨nma,nmn,nmc⟩,⟨sya,syn,syc⟩,⟨rla,rln,rlc⟩,⟨zsa,zsn,zsc⟩⟩,⟨fia,fin,fic⟩,⟨n0,n1,n2⟩,v0,v1,v2,v3,v4,v5,v6,⟨tba,tbn,tbc⟩⟩:=p;subst hp;have q11:w.cell? ⟨g,11,none⟩=some (.slice fia fin fic):=h.box.cell 11;simp only at hfl;have hfm:(fin:Int)≤9223372036854775807:=by have h1:=h.fok.le;have h2:=h.fok.max;simp only at h1 h2;omega
 unfold iP;rw [hfl];by_cases hb:65536<fin
 ·have hbi:(65536:Int)<fin:=by omega
  rw [if_pos hb];clear h;go_enter Tryz.func19,Tryz.ntmps19
  go_wp2;go_ret;exact ⟨rfl,fun e=>(by cases e),Kq.refl _ _⟩
 ·have hbi:(fin:Int)≤65536:=by omega
  rw [if_neg hb];have HCL:=hZz (rr g fia fin fic m.f w h.fil (Nat.le_of_lt hgl) h.fnl oZm);have HFL:=hZz hfl;clear h hfl;go_enter Tryz.func19,Tryz.ntmps19
  go_wp2_with fail;refine HCL.out.mono ?_;rintro r w2 ⟨⟨u,rfl,hu⟩,hb2⟩;unfold Rb at hu;obtain ⟨ua,uc,rfl⟩:=bF hu;have HU:=hZz (bL hu (show g+1≤w.heap.size from hgl));have HB2:=hZz hb2;have hbx:=HK.out w2 hb2;obtain ⟨q10,f10⟩:w2.cell? ⟨g,10,none⟩=some (.slice zsa zsn zsc)∧w2.frozen? ⟨g,10,none⟩=false:=⟨hbx.cell 10,hbx.frozen 10⟩
  have hgl2:=hbx.lt;have HBX:=hZz (hbx.set 10 (.slice ua m.f.length uc));clear hu hb2 hbx;go_wp2;go_ret;have hk:Kq g w (w2.setCell ⟨g,10,none⟩ (.slice ua m.f.length uc)):=(Kq.later (Nat.le_of_lt hgl) HB2.out).set 10 _;refine ⟨rfl,fun _=>⟨⟨⟨k,e,s,c,⟨sga,sgn,sgc⟩,so,⟨nda,ndn,ndc⟩,⟨nma,nmn,nmc⟩,⟨sya,syn,syc⟩,⟨rla,rln,rlc⟩,⟨ua,m.f.length,uc⟩⟩,⟨fia,fin,fic⟩,⟨n0,n1,n2⟩,v0,v1,v2,v3,v4,v5,v6,⟨tba,tbn,tbc⟩⟩,?_⟩,hk⟩;have hr:=H.out.row.kp hk.kp (Nat.lt_succ_self _);refine H.out.next hk HBX.out { hr with zs:=cd (Kp.set (Kp.refl g w2) 10 _) HU.out (Nat.lt_succ_self _),okz:=H.out.fil.2.1,lz:=by simp only;rw [HFL.out];omega } rfl rfl
def fv (m:Pm):Int×Pm:=
 if m.m.zs.length<64 then (10,m) else if dD m.m.zs=false then (11,m)
 else if kOf m.m.zs=2∨kOf m.m.zs=3 then (0,{ m with m:={ m.m with k:=kOf m.m.zs,e:=eOf m.m.zs,s:=sOf m.m.zs,c:=cOf m.m.zs } }) else (11,m)
theorem kH (k:Int) (w:World):Calls Tryz.prog 45 #[.int .i64 k] w fun r w'=>r=.returned (.bool (k==2 || k==3))∧w=w':=by
 by_cases h2:k=2
 ·subst h2;go_enter Tryz.func45,Tryz.ntmps45
  go_wp2;go_ret;exact ⟨rfl,rfl⟩
 ·have h2b:(k==2)=false:=by simpa using h2
  by_cases h3:k=3
  ·subst h3;go_enter Tryz.func45,Tryz.ntmps45
   go_wp2;go_ret;exact ⟨rfl,rfl⟩
  ·have h3b:(k==3)=false:=by simpa using h3
   go_enter Tryz.func45,Tryz.ntmps45
   go_wp2;go_ret;exact ⟨by rw [h2b,h3b];rfl,rfl⟩
theorem hget9 (zs:List Int):∃k e s c er:Int,jh zs=.tuple #[.agg #[.int .i64 k,.int .u64 e,.int .u64 s,.int .i64 c],.int .i64 er]∧
 ((zs.length<64∧er=10)∨(64≤zs.length∧dD zs=false∧er=11)∨(64≤zs.length∧dD zs=true∧er=0∧k=kOf zs∧e=eOf zs∧s=sOf zs∧c=cOf zs)):=by
 unfold jh;by_cases h:zs.length<64
 ·rw [if_pos h];exact ⟨0,0,0,0,10,rfl,.inl ⟨h,rfl⟩⟩
 ·rw [if_neg h];cases hi:dD zs with
  | true=>rw [if_pos rfl];exact ⟨_,_,_,_,0,rfl,.inr (.inr ⟨by omega,rfl,rfl,rfl,rfl,rfl,rfl⟩)⟩
  | false=>rw [if_neg (by decide)];exact ⟨0,0,0,0,11,rfl,.inr (.inl ⟨by omega,rfl,rfl⟩)⟩
theorem Blk.head9 {w:World} {g:Nat} {t:TypeId} {z0 z1 z2 z3:Value} {C:List Value} (h:Blk w g ⟨z0 :: z1 :: z2 :: z3 :: C⟩ t) (v0 v1 v2 v3:Value):Blk ((((w.setCell ⟨g,0,none⟩ v0).setCell ⟨g,1,none⟩ v1).setCell ⟨g,2,none⟩ v2).setCell ⟨g,3,none⟩ v3) g ⟨v0 :: v1 :: v2 :: v3 :: C⟩ t:=by
 have h1:Blk (w.setCell ⟨g,0,none⟩ v0) g ⟨v0 :: z1 :: z2 :: z3 :: C⟩ t:=by have q:=h.set 0 v0;simpa using q
 have h2:Blk ((w.setCell ⟨g,0,none⟩ v0).setCell ⟨g,1,none⟩ v1) g ⟨v0 :: v1 :: z2 :: z3 :: C⟩ t:=by have q:=h1.set 1 v1;simpa using q
 have h3:Blk (((w.setCell ⟨g,0,none⟩ v0).setCell ⟨g,1,none⟩ v1).setCell ⟨g,2,none⟩ v2) g ⟨v0 :: v1 :: v2 :: z3 :: C⟩ t:=by have q:=h2.set 2 v2;simpa using q
 have q:=h3.set 3 v3;simpa using q
theorem sw (g:Nat):fp g 20 fv:=by
 intro p m w h;have H:=hZz h;have hgl:=h.lt;have HK:Hid (∀w1,Below w.heap.size w w1→Blk w1 g p.cells 72):=hZz (fun w1 h1=>h.box.later h1);obtain ⟨hk,he,hs,hc,er,hg,hcase⟩:=hget9 m.m.zs;have HG:=hZz (wE hg w.heap.size p.x.zs.a p.x.zs.n p.x.zs.c w h.bys.1 (lZr _) h.bys.2.1 h.bys.2.2.1);obtain ⟨⟨k,e,s,c,⟨sga,sgn,sgc⟩,so,⟨nda,ndn,ndc⟩,⟨nma,nmn,nmc⟩,⟨sya,syn,syc⟩,⟨rla,rln,rlc⟩,⟨zsa,zsn,zsc⟩⟩,⟨fia,fin,fic⟩,⟨n0,n1,n2⟩,v0,v1,v2,v3,v4,v5,v6,⟨tba,tbn,tbc⟩⟩:=p;clear h hg;have q10:w.cell? ⟨g,10,none⟩=some (.slice zsa zsn zsc):=(HK.out w (Below.refl _ _)).cell 10;simp only at HG;have HCASE:=hZz hcase;clear hcase;have HEND:Hid (∀w2,Below w.heap.size w w2→Blk ((((w2.setCell ⟨g,0,none⟩ (.int .i64 hk)).setCell ⟨g,1,none⟩ (.int .u64 he)).setCell ⟨g,2,none⟩ (.int .u64 hs)).setCell ⟨g,3,none⟩ (.int .i64 hc)) g #[.int .i64 hk,.int .u64 he,.int .u64 hs,.int .i64 hc,.slice sga sgn sgc,.string so,.slice nda ndn ndc,.slice nma nmn nmc,.slice sya syn syc,.slice rla rln rlc,.slice zsa zsn zsc,.slice fia fin fic,.slice n0 n1 n2,.int .u64 v0,.int .u64 v1,.int .u64 v2,.int .u64 v3,.int .u64 v4,.int .u64 v5,.int .u64 v6,.slice tba tbn tbc] 72∧Kq g w ((((w2.setCell ⟨g,0,none⟩ (.int .i64 hk)).setCell ⟨g,1,none⟩ (.int .u64 he)).setCell ⟨g,2,none⟩ (.int .u64 hs)).setCell ⟨g,3,none⟩ (.int .i64 hc))):=hZz (fun w2 h2=>
  ⟨(HK.out w2 h2).head9 _ _ _ _,((((Kq.later (Nat.le_of_lt hgl) h2).set 0 _).set 1 _).set 2 _).set 3 _⟩)
 have HPS:Hid (hk=kOf m.m.zs→he=eOf m.m.zs→hs=sOf m.m.zs→hc=cOf m.m.zs→cw hs→∀w3,Blk w3 g #[.int .i64 hk,.int .u64 he,.int .u64 hs,.int .i64 hc,.slice sga sgn sgc,.string so,.slice nda ndn ndc,.slice nma nmn nmc,.slice sya syn syc,.slice rla rln rlc,.slice zsa zsn zsc,.slice fia fin fic,.slice n0 n1 n2,.int .u64 v0,.int .u64 v1,.int .u64 v2,.int .u64 v3,.int .u64 v4,.int .u64 v5,.int .u64 v6,.slice tba tbn tbc] 72→Kq g w w3→Ps9 g w3 ⟨⟨hk,he,hs,hc,⟨sga,sgn,sgc⟩,so,⟨nda,ndn,ndc⟩,⟨nma,nmn,nmc⟩,⟨sya,syn,syc⟩,⟨rla,rln,rlc⟩,⟨zsa,zsn,zsc⟩⟩,⟨fia,fin,fic⟩,⟨n0,n1,n2⟩,v0,v1,v2,v3,v4,v5,v6,⟨tba,tbn,tbc⟩⟩ { m with m:={ m.m with k:=kOf m.m.zs,e:=eOf m.m.zs,s:=sOf m.m.zs,c:=cOf m.m.zs } }):=hZz (fun e1 e2 e3 e4 e5 w3 hb hq=>H.out.next hq hb { H.out.row.kp hq.kp (Nat.lt_succ_self _) with k:=e1,e:=e2,s:=e3,c:=e4,bs:=e5 } rfl rfl);have HZ:=hZz H.out.row.okz;obtain ⟨Z,hZ⟩:∃Z,fv m=Z:=⟨_,rfl⟩
 have HZD:=hZz hZ;rw [hZ];clear hZ;have HMB:=hZz (fun w1=>kH hk w1);by_cases her:er=0
 ·subst her;obtain ⟨hl,hih,e1,e2,e3,e4⟩:64≤m.m.zs.length∧dD m.m.zs=true∧hk=kOf m.m.zs∧he=eOf m.m.zs∧hs=sOf m.m.zs∧hc=cOf m.m.zs:=by
   rcases HCASE.out with ⟨-,h⟩ | ⟨-,-,h⟩ | ⟨h1,h2,-,h3,h4,h5,h6⟩
   ·cases h
   ·cases h
   ·exact ⟨h1,h2,h3,h4,h5,h6⟩
  have HPS2:=hZz (HPS.out e1 e2 e3 e4 (by rw [e3];exact pX HZ.out hl));have HZ2:Hid (Z=if hk=2∨hk=3 then (0,{ m with m:={ m.m with k:=kOf m.m.zs,e:=eOf m.m.zs,s:=sOf m.m.zs,c:=cOf m.m.zs } }) else (11,m)):=hZz (by rw [←HZD.out];unfold fv;rw [if_neg oZm,if_neg (by rw [hih];decide),e1]);clear HPS e1 e2 e3 e4 hl hih HZD HCASE HZ;by_cases hm:hk=2∨hk=3
  ·have hb:(hk==2 || hk==3)=true:=by rcases hm with h | h<;>rw [h]<;>rfl
   have hZ:=HZ2.out;rw [if_pos hm] at hZ;subst hZ;rw [hb] at HMB;clear hm hb;go_enter Tryz.func20,Tryz.ntmps20
   go_wp2_with fail;refine HG.out.mono ?_;rintro r w2 ⟨rfl,hb2⟩;obtain ⟨hbx,hkq⟩:=HEND.out w2 hb2;have HBX:=hZz hbx;have HKQ:=hZz hkq;have hbo:=HK.out w2 hb2;obtain ⟨p0,p1,p2,p3⟩:w2.cell? ⟨g,0,none⟩=some (.int .i64 k)∧w2.cell? ⟨g,1,none⟩=some (.int .u64 e)∧w2.cell? ⟨g,2,none⟩=some (.int .u64 s)∧w2.cell? ⟨g,3,none⟩=some (.int .i64 c):=⟨hbo.cell 0,hbo.cell 1,hbo.cell 2,hbo.cell 3⟩
   obtain ⟨f0,f1,f2,f3⟩:w2.frozen? ⟨g,0,none⟩=false∧w2.frozen? ⟨g,1,none⟩=false∧w2.frozen? ⟨g,2,none⟩=false∧w2.frozen? ⟨g,3,none⟩=false:=⟨hbo.frozen 0,hbo.frozen 1,hbo.frozen 2,hbo.frozen 3⟩
   have hgl2:=hbo.lt;have z0:=hbx.cell 0;clear hb2 hbx hkq hbo;go_wp2_with fail;refine (HMB.out _).mono ?_;rintro r w3 ⟨rfl,rfl⟩;go_wp2;go_ret;exact ⟨rfl,fun _=>⟨_,HPS2.out _ HBX.out HKQ.out⟩,HKQ.out⟩
  ·have hb:(hk==2 || hk==3)=false:=by rw [Bool.eq_false_iff];intro h;apply hm;simpa using h
   have hZ:=HZ2.out;rw [if_neg hm] at hZ;subst hZ;rw [hb] at HMB;clear hm hb;go_enter Tryz.func20,Tryz.ntmps20
   go_wp2_with fail;refine HG.out.mono ?_;rintro r w2 ⟨rfl,hb2⟩;obtain ⟨hbx,hkq⟩:=HEND.out w2 hb2;have HKQ:=hZz hkq;have hbo:=HK.out w2 hb2;obtain ⟨p0,p1,p2,p3⟩:w2.cell? ⟨g,0,none⟩=some (.int .i64 k)∧w2.cell? ⟨g,1,none⟩=some (.int .u64 e)∧w2.cell? ⟨g,2,none⟩=some (.int .u64 s)∧w2.cell? ⟨g,3,none⟩=some (.int .i64 c):=⟨hbo.cell 0,hbo.cell 1,hbo.cell 2,hbo.cell 3⟩
   obtain ⟨f0,f1,f2,f3⟩:w2.frozen? ⟨g,0,none⟩=false∧w2.frozen? ⟨g,1,none⟩=false∧w2.frozen? ⟨g,2,none⟩=false∧w2.frozen? ⟨g,3,none⟩=false:=⟨hbo.frozen 0,hbo.frozen 1,hbo.frozen 2,hbo.frozen 3⟩
   have hgl2:=hbo.lt;have z0:=hbx.cell 0;clear hb2 hbx hkq hbo;go_wp2_with fail;refine (HMB.out _).mono ?_;rintro r w3 ⟨rfl,rfl⟩;go_wp2;go_ret;exact ⟨rfl,fun e=>(by cases e),HKQ.out⟩
 ·have hZ:Z=(er,m):=by
   rw [←HZD.out];unfold fv;rcases HCASE.out with ⟨h1,h2⟩ | ⟨h1,h2,h3⟩ | ⟨-,-,h,-⟩
   ·rw [if_pos h1,h2]
   ·rw [if_neg oZm,if_pos h2,h3]
   ·exact absurd h her
  subst hZ;have heb:(er != 0)=true:=by rw [bne_iff_ne];exact her
  clear HZD HCASE HZ HPS HMB;go_enter Tryz.func20,Tryz.ntmps20
  go_wp2_with fail;refine HG.out.mono ?_;rintro r w2 ⟨rfl,hb2⟩;obtain ⟨hbx,hkq⟩:=HEND.out w2 hb2;have HKQ:=hZz hkq;have hbo:=HK.out w2 hb2;obtain ⟨p0,p1,p2,p3⟩:w2.cell? ⟨g,0,none⟩=some (.int .i64 k)∧w2.cell? ⟨g,1,none⟩=some (.int .u64 e)∧w2.cell? ⟨g,2,none⟩=some (.int .u64 s)∧w2.cell? ⟨g,3,none⟩=some (.int .i64 c):=⟨hbo.cell 0,hbo.cell 1,hbo.cell 2,hbo.cell 3⟩
  obtain ⟨f0,f1,f2,f3⟩:w2.frozen? ⟨g,0,none⟩=false∧w2.frozen? ⟨g,1,none⟩=false∧w2.frozen? ⟨g,2,none⟩=false∧w2.frozen? ⟨g,3,none⟩=false:=⟨hbo.frozen 0,hbo.frozen 1,hbo.frozen 2,hbo.frozen 3⟩
  have hgl2:=hbo.lt;clear hb2 hbx hkq hbo;go_wp2;go_ret;exact ⟨rfl,fun e=>absurd e her,HKQ.out⟩
def eF (m:Pm):Int×Pm:=
 if (bg m.m.zs m.m.s m.m.c).1≠0 then ((bg m.m.zs m.m.s m.m.c).1,m)
 else if bZ (bg m.m.zs m.m.s m.m.c).2 m.m.zs.length≠0 then (bZ (bg m.m.zs m.m.s m.m.c).2 m.m.zs.length,m)
 else if (bg m.m.zs m.m.s m.m.c).2.find? (bC 1)=none then (11,m)
 else (0,{ m with m:={ m.m with sg:=(bg m.m.zs m.m.s m.m.c).2 } })
theorem sJ (g:Nat):fp g 21 eF:=by
 intro p m w h;have H:=hZz h;have hgl:=h.lt;obtain ⟨T,hT⟩:∃T,bg m.m.zs m.m.s m.m.c=T:=⟨_,rfl⟩
 have HOK:Hid (∀s∈T.2,s.Ok):=hZz (by rw [←hT];exact (kB h.row.okz (by rw [←h.row.s];exact h.row.bs.1)).1);have hzn:p.x.zs.n=m.m.zs.length:=h.bys.1.1.symm;have hzl:p.x.zs.n≤65536:=h.bys.2.2.2;have hpe:p.x.s=m.m.s∧p.x.c=m.m.c:=⟨h.row.s,h.row.c⟩
 have hbs:=h.row.bs;have HB0:=hZz (show ∀w1,Ps9 g w1 p m→Blk w1 g p.cells 72 from fun w1 h1=>h1.box);have HBY:Hid (∀w1,Ps9 g w1 p m→Bys w1 w1.heap.size p.x.zs.a p.x.zs.n m.m.zs∧p.x.zs.n≤p.x.zs.c∧(p.x.zs.c:Int)≤9223372036854775807):=hZz (fun w1 h1=>⟨h1.bys.1,h1.bys.2.1,h1.bys.2.2.1⟩);obtain ⟨⟨k,e,s,c,⟨sga,sgn,sgc⟩,so,⟨nda,ndn,ndc⟩,⟨nma,nmn,nmc⟩,⟨sya,syn,syc⟩,⟨rla,rln,rlc⟩,⟨zsa,zsn,zsc⟩⟩,⟨fia,fin,fic⟩,⟨n0,n1,n2⟩,v0,v1,v2,v3,v4,v5,v6,⟨tba,tbn,tbc⟩⟩:=p;simp only at hzn hzl hpe hbs HB0 HBY;obtain ⟨rfl,rfl⟩:=hpe;have hzi:(zsn:Int)≤65536:=by omega
 obtain ⟨P0,hP0⟩:∃P0:World→Prop,P0=fun w1=>Ps9 g w1 ⟨⟨k,e,m.m.s,m.m.c,⟨sga,sgn,sgc⟩,so,⟨nda,ndn,ndc⟩,⟨nma,nmn,nmc⟩,⟨sya,syn,syc⟩,⟨rla,rln,rlc⟩,⟨zsa,zsn,zsc⟩⟩,⟨fia,fin,fic⟩,⟨n0,n1,n2⟩,v0,v1,v2,v3,v4,v5,v6,⟨tba,tbn,tbc⟩⟩ m∧Kq g w w1:=⟨_,rfl⟩
 obtain ⟨P1,hP1⟩:∃P1:World→Prop,P1=fun w1=>∃xa xc,Ps9 g w1 ⟨⟨k,e,m.m.s,m.m.c,⟨xa,T.2.length,xc⟩,so,⟨nda,ndn,ndc⟩,⟨nma,nmn,nmc⟩,⟨sya,syn,syc⟩,⟨rla,rln,rlc⟩,⟨zsa,zsn,zsc⟩⟩,⟨fia,fin,fic⟩,⟨n0,n1,n2⟩,v0,v1,v2,v3,v4,v5,v6,⟨tba,tbn,tbc⟩⟩ { m with m:={ m.m with sg:=T.2 } }∧Kq g w w1:=⟨_,rfl⟩
 have HP0:Hid (P0 w.drew):=hZz (by rw [hP0];exact ⟨H.out.drew,(Kq.refl g w).drew (Nat.le_of_lt hgl)⟩);have HPB:Hid (∀w1,P0 w1→Blk w1 g #[.int .i64 k,.int .u64 e,.int .u64 m.m.s,.int .i64 m.m.c,.slice sga sgn sgc,.string so,.slice nda ndn ndc,.slice nma nmn nmc,.slice sya syn syc,.slice rla rln rlc,.slice zsa zsn zsc,.slice fia fin fic,.slice n0 n1 n2,.int .u64 v0,.int .u64 v1,.int .u64 v2,.int .u64 v3,.int .u64 v4,.int .u64 v5,.int .u64 v6,.slice tba tbn tbc] 72):=hZz (fun w1 h1=>by rw [hP0] at h1;exact h1.1.box);have HPC:Hid (∀w1,P0 w1→Calls Tryz.prog 46 #[.slice zsa zsn zsc,.int .u64 m.m.s,.int .i64 m.m.c] w1 fun r w2=>(∃u,r=.returned (.tuple #[u,.int .i64 T.1])∧w2.ownsRow (g+1) 65 7 u T.2.length (bQ T.2))∧P0 w2∧Kq g w1 w2):=hZz (fun w1 h1=>by
  rw [hP0] at h1;obtain ⟨b1,b2,b3⟩:=HBY.out w1 h1.1;have hl:=h1.1.lt;refine (lJ w1.heap.size zsa zsn zsc m.m.zs m.m.s m.m.c w1 b1 (lZr _) b2 b3 oZm hbs.1 hbs.2).mono ?_;rintro r w2 ⟨⟨u,hr,ho⟩,hb⟩;rw [hT] at hr ho;refine ⟨⟨u,hr,aR ho hl⟩,?_,Kq.later (Nat.le_of_lt hl) hb⟩;rw [hP0];exact ⟨h1.1.later hb,h1.2.trans (Kq.later (Nat.le_of_lt hl) hb)⟩)
 have HPS:Hid (∀w1 xa xc,P0 w1→w1.ownsRow (g+1) 65 7 (.slice xa T.2.length xc) T.2.length (bQ T.2)→P1 (w1.setCell ⟨g,4,none⟩ (.slice xa T.2.length xc))∧Kq g w1 (w1.setCell ⟨g,4,none⟩ (.slice xa T.2.length xc))):=hZz (fun w1 xa xc h1 ho=>by
  rw [hP0] at h1;rw [hP1];have hk:Kq g w1 (w1.setCell ⟨g,4,none⟩ (.slice xa T.2.length xc)):=(Kq.refl g w1).set 4 _;have hbx:=h1.1.box.set 4 (.slice xa T.2.length xc);exact ⟨⟨xa,xc,h1.1.next hk hbx { h1.1.row.kp hk.kp (Nat.lt_succ_self _) with sg:=cd hk.kp ho (Nat.lt_succ_self _),oks:=HOK.out } rfl rfl,h1.2.trans hk⟩,hk⟩)
 have HFZ:Hid (∀w1,P0 w1→w1.frozen? ⟨g,4,none⟩=false∧w1.cell? ⟨g,4,none⟩=some (.slice sga sgn sgc)∧g<w1.heap.size):=hZz (fun w1 h1=>⟨(HPB.out w1 h1).frozen 4,(HPB.out w1 h1).cell 4,(HPB.out w1 h1).lt⟩);have HR1:=hZz (fun w1 (h1:P1 w1)=>(by rw [hP1] at h1;exact h1:∃xa xc,Ps9 g w1 ⟨⟨k,e,m.m.s,m.m.c,⟨xa,T.2.length,xc⟩,so,⟨nda,ndn,ndc⟩,⟨nma,nmn,nmc⟩,⟨sya,syn,syc⟩,⟨rla,rln,rlc⟩,⟨zsa,zsn,zsc⟩⟩,⟨fia,fin,fic⟩,⟨n0,n1,n2⟩,v0,v1,v2,v3,v4,v5,v6,⟨tba,tbn,tbc⟩⟩ { m with m:={ m.m with sg:=T.2 } }∧Kq g w w1));have HZ:Hid (∃Z,eF m=Z∧(T.1≠0→Z=(T.1,m))∧(T.1=0→bZ T.2 m.m.zs.length≠0→Z=(bZ T.2 m.m.zs.length,m))∧(T.1=0→bZ T.2 m.m.zs.length=0→T.2.find? (bC 1)=none→Z=(11,m))∧(T.1=0→bZ T.2 m.m.zs.length=0→T.2.find? (bC 1)≠none→Z=(0,{ m with m:={ m.m with sg:=T.2 } }))):=hZz (by
  refine ⟨_,rfl,?_,?_,?_,?_⟩
  ·intro h1;unfold eF;rw [hT,if_pos h1]
  ·intro h1 h2;unfold eF;rw [hT,if_neg (by simpa using h1),if_pos h2]
  ·intro h1 h2 h3;unfold eF;rw [hT,if_neg (by simpa using h1),if_neg (by simpa using h2),if_pos h3]
  ·intro h1 h2 h3;unfold eF;rw [hT,if_neg (by simpa using h1),if_neg (by simpa using h2),if_neg h3])
 obtain ⟨Z,hZ,HZ1,HZ2,HZ3,HZ4⟩:=HZ.out;rw [hZ];have HZ1:=hZz HZ1;have HZ2:=hZz HZ2;have HZ3:=hZz HZ3;have HZ4:=hZz HZ4;have HZN:=hZz hzn;clear h hP0 hP1 hT hZ HZ hzn hbs;obtain ⟨te,TL⟩:=T;simp only at HPC HPS HR1 HZ1 HZ2 HZ3 HZ4 HOK;obtain ⟨tn,htn⟩:∃tn,TL.length=tn:=⟨_,rfl⟩
 rw [htn] at HPC HPS HR1;obtain ⟨ck,hck⟩:∃ck,bZ TL m.m.zs.length=ck:=⟨_,rfl⟩
 rw [hck] at HZ2 HZ3 HZ4;have HR2:Hid (∀w1,P1 w1→∃xa xc,Kq g w w1∧Ps9 g w1 ⟨⟨k,e,m.m.s,m.m.c,⟨xa,tn,xc⟩,so,⟨nda,ndn,ndc⟩,⟨nma,nmn,nmc⟩,⟨sya,syn,syc⟩,⟨rla,rln,rlc⟩,⟨zsa,zsn,zsc⟩⟩,⟨fia,fin,fic⟩,⟨n0,n1,n2⟩,v0,v1,v2,v3,v4,v5,v6,⟨tba,tbn,tbc⟩⟩ { m with m:={ m.m with sg:=TL } }∧Blk w1 g #[.int .i64 k,.int .u64 e,.int .u64 m.m.s,.int .i64 m.m.c,.slice xa tn xc,.string so,.slice nda ndn ndc,.slice nma nmn nmc,.slice sya syn syc,.slice rla rln rlc,.slice zsa zsn zsc,.slice fia fin fic,.slice n0 n1 n2,.int .u64 v0,.int .u64 v1,.int .u64 v2,.int .u64 v3,.int .u64 v4,.int .u64 v5,.int .u64 v6,.slice tba tbn tbc] 72):=hZz (fun w1 h1=>by
  obtain ⟨xa,xc,h2,h3⟩:=HR1.out w1 h1;exact ⟨xa,xc,h3,h2,h2.box⟩)
 have HCK:Hid (∀w1 xa xc,Ps9 g w1 ⟨⟨k,e,m.m.s,m.m.c,⟨xa,tn,xc⟩,so,⟨nda,ndn,ndc⟩,⟨nma,nmn,nmc⟩,⟨sya,syn,syc⟩,⟨rla,rln,rlc⟩,⟨zsa,zsn,zsc⟩⟩,⟨fia,fin,fic⟩,⟨n0,n1,n2⟩,v0,v1,v2,v3,v4,v5,v6,⟨tba,tbn,tbc⟩⟩ { m with m:={ m.m with sg:=TL } }→Calls Tryz.prog 47 #[.slice xa tn xc,.int .u64 zsn] w1 (fun r w2=>r=.returned (.int .i64 ck)∧Below w1.heap.size w1 w2)):=hZz (fun w1 xa xc h2=>by
  have h4:=h2.seg;have:=pU w1.heap.size xa tn xc TL zsn w1 h4.1 (lZr _) h4.2.1 h4.2.2 oZm oZm;rw [HZN.out,hck] at this;rw [HZN.out];exact this)
 have HFD:Hid (∀w1 xa xc,Ps9 g w1 ⟨⟨k,e,m.m.s,m.m.c,⟨xa,tn,xc⟩,so,⟨nda,ndn,ndc⟩,⟨nma,nmn,nmc⟩,⟨sya,syn,syc⟩,⟨rla,rln,rlc⟩,⟨zsa,zsn,zsc⟩⟩,⟨fia,fin,fic⟩,⟨n0,n1,n2⟩,v0,v1,v2,v3,v4,v5,v6,⟨tba,tbn,tbc⟩⟩ { m with m:={ m.m with sg:=TL } }→Calls Tryz.prog 48 #[.slice xa tn xc,.int .u32 1] w1 fun r w2=>r=.returned (.tuple #[dE (TL.find? (bC 1)),.bool (TL.find? (bC 1)).isSome])∧Below w1.heap.size w1 w2):=hZz (fun w1 xa xc h1=>by
  have h4:=h1.seg;exact ie w1.heap.size xa tn xc TL 1 w1 h4.1 (lZr _) (by have h5:=h4.2.1;have h6:=h4.2.2;simp only at h5 h6;omega))
 have HW1:Hid (IntKind.u64.wrap (zsn:Int)=zsn):=hZz (by rw [IntKind.wrap_u64];omega);clear HBY HB0;clear hck;go_enter Tryz.func21,Tryz.ntmps21
 go_wp2_with fail;refine aL (by kernel_rfl) 60 rfl [6,7,8,9,10,11,12,13,14,15,16,17,18,19,20,21,22,23,24,5,25,26,27,28,29,60,2] (Kq (g)) (aU [Is (.pointer (some ⟨g,0,none⟩)),Is (.pointer (some ⟨g,0,none⟩)),Is (.pointer (some ⟨g,0,none⟩)),Is (.pointer (some ⟨g,0,none⟩)),Is (.pointer (some ⟨g,10,none⟩)),Is (.slice zsa zsn zsc),Is (.pointer (some ⟨g,0,none⟩)),Is (.pointer (some ⟨g,0,none⟩)),Is (.pointer (some ⟨g,0,none⟩)),Is (.pointer (some ⟨g,0,none⟩)),Is (.pointer (some ⟨g,2,none⟩)),Is (.int .u64 m.m.s),Is (.pointer (some ⟨g,0,none⟩)),Is (.pointer (some ⟨g,0,none⟩)),Is (.pointer (some ⟨g,0,none⟩)),Is (.pointer (some ⟨g,0,none⟩)),Is (.pointer (some ⟨g,3,none⟩)),Is (.int .i64 m.m.c),(OwE (g+1) 65 7 tn (bQ TL) te),(OwE (g+1) 65 7 tn (bQ TL) te),(Ow (g+1) 65 7 tn (bQ TL)),Is (.int .i64 te),Is (.pointer (some ⟨g,0,none⟩)),Is (.pointer (some ⟨g,0,none⟩)),Is (.pointer (some ⟨g,4,none⟩)),kd,Is (.int .i64 te)]) (Jo 25 (P0) (P1)) ?mono1 ?hj1 (by kernel_rfl) ?start1 ?steps1 ?fin1;case mono1=>exact aX (ac (Is.mono9 _ _) (ac (Is.mono9 _ _) (ac (Is.mono9 _ _) (ac (Is.mono9 _ _) (ac (Is.mono9 _ _) (ac (Is.mono9 _ _) (ac (Is.mono9 _ _) (ac (Is.mono9 _ _) (ac (Is.mono9 _ _) (ac (Is.mono9 _ _) (ac (Is.mono9 _ _) (ac (Is.mono9 _ _) (ac (Is.mono9 _ _) (ac (Is.mono9 _ _) (ac (Is.mono9 _ _) (ac (Is.mono9 _ _) (ac (Is.mono9 _ _) (ac (Is.mono9 _ _) (ac (OwE.mono (Nat.lt_succ_self _) _ _ _ _ _) (ac (OwE.mono (Nat.lt_succ_self _) _ _ _ _ _) (ac (Ow.mono (Nat.lt_succ_self _) _ _ _ _) (ac (Is.mono9 _ _) (ac (Is.mono9 _ _) (ac (Is.mono9 _ _) (ac (Is.mono9 _ _) (ac (kd.mono _) (ac (Is.mono9 _ _) (bU _))))))))))))))))))))))))))))
 case hj1=>exact Jo.congr dZc
 case start1=>exact ⟨fun _=>HP0.out,fun h=>by cases h⟩
 case fin1=>
  intro v9 L w9 hJ hall hF;have hQ:=hJ.p1 (hall 25 dZc);have f6:v9 0=.pointer (some ⟨g,0,none⟩):=hF 0 dZc dZc;have f7:v9 1=.pointer (some ⟨g,0,none⟩):=hF 1 dZc dZc;have f8:v9 2=.pointer (some ⟨g,0,none⟩):=hF 2 dZc dZc;have f9:v9 3=.pointer (some ⟨g,0,none⟩):=hF 3 dZc dZc;have f10:v9 4=.pointer (some ⟨g,10,none⟩):=hF 4 dZc dZc;have f11:v9 5=.slice zsa zsn zsc:=hF 5 dZc dZc;have f12:v9 6=.pointer (some ⟨g,0,none⟩):=hF 6 dZc dZc;have f13:v9 7=.pointer (some ⟨g,0,none⟩):=hF 7 dZc dZc;have f14:v9 8=.pointer (some ⟨g,0,none⟩):=hF 8 dZc dZc;have f15:v9 9=.pointer (some ⟨g,0,none⟩):=hF 9 dZc dZc;have f16:v9 10=.pointer (some ⟨g,2,none⟩):=hF 10 dZc dZc;have f17:v9 11=.int .u64 m.m.s:=hF 11 dZc dZc;have f18:v9 12=.pointer (some ⟨g,0,none⟩):=hF 12 dZc dZc;have f19:v9 13=.pointer (some ⟨g,0,none⟩):=hF 13 dZc dZc;have f20:v9 14=.pointer (some ⟨g,0,none⟩):=hF 14 dZc dZc;have f21:v9 15=.pointer (some ⟨g,0,none⟩):=hF 15 dZc dZc;have f22:v9 16=.pointer (some ⟨g,3,none⟩):=hF 16 dZc dZc;have f23:v9 17=.int .i64 m.m.c:=hF 17 dZc dZc;have f26:v9 21=.int .i64 te:=hF 21 dZc dZc;have f27:v9 22=.pointer (some ⟨g,0,none⟩):=hF 22 dZc dZc;have f28:v9 23=.pointer (some ⟨g,0,none⟩):=hF 23 dZc dZc;have f29:v9 24=.pointer (some ⟨g,4,none⟩):=hF 24 dZc dZc;have f2:v9 26=.int .i64 te:=hF 26 dZc dZc;clear hJ hall hF;simp only [aO,List.set_cons_succ,List.set_cons_zero,Nat.reduceAdd,f6,f7,f8,f9,f10,f11,f12,f13,f14,f15,f16,f17,f18,f19,f20,f21,f22,f23,f26,f27,f28,f29,f2];clear f2 f6 f7 f8 f9 f10 f11 f12 f13 f14 f15 f16 f17 f18 f19 f20 f21 f22 f23 f26 f27 f28 f29;obtain ⟨xa,xc,hkq,hst,hbx⟩:=HR2.out _ hQ;have HKQ:=hZz hkq;have HST:=hZz hst;have hgl2:=hbx.lt;clear hQ hkq hst hbx;by_cases hte:te=0
  ·subst hte;obtain ⟨P4,hP4⟩:∃P4:World→Prop,P4=fun w1=>Ps9 g w1 ⟨⟨k,e,m.m.s,m.m.c,⟨xa,tn,xc⟩,so,⟨nda,ndn,ndc⟩,⟨nma,nmn,nmc⟩,⟨sya,syn,syc⟩,⟨rla,rln,rlc⟩,⟨zsa,zsn,zsc⟩⟩,⟨fia,fin,fic⟩,⟨n0,n1,n2⟩,v0,v1,v2,v3,v4,v5,v6,⟨tba,tbn,tbc⟩⟩ { m with m:={ m.m with sg:=TL } }∧Kq g w w1:=⟨_,rfl⟩
   have HP0:Hid (P4 w9.drew):=hZz (by rw [hP4];exact ⟨HST.out.drew,HKQ.out.drew (Nat.le_of_lt hgl2)⟩);clear HST HKQ;go_wp2_with fail;refine aL (by kernel_rfl) 60 rfl [33,34,35,36,37,38,39,40,41,42,43,44,45,2] (Kq (g)) (aU [Is (.pointer (some ⟨g,0,none⟩)),Is (.pointer (some ⟨g,0,none⟩)),Is (.pointer (some ⟨g,0,none⟩)),Is (.pointer (some ⟨g,4,none⟩)),Is (.slice xa tn xc),Is (.pointer (some ⟨g,0,none⟩)),Is (.pointer (some ⟨g,0,none⟩)),Is (.pointer (some ⟨g,0,none⟩)),Is (.pointer (some ⟨g,10,none⟩)),Is (.slice zsa zsn zsc),Is (.int .i64 zsn),Is (.int .u64 zsn),Is (.int .i64 ck),Is (.int .i64 ck)]) (Jo 12 (P4) (P4)) ?mono4 ?hj4 (by kernel_rfl) ?start4 ?steps4 ?fin4;case mono4=>exact aX (ac (Is.mono9 _ _) (ac (Is.mono9 _ _) (ac (Is.mono9 _ _) (ac (Is.mono9 _ _) (ac (Is.mono9 _ _) (ac (Is.mono9 _ _) (ac (Is.mono9 _ _) (ac (Is.mono9 _ _) (ac (Is.mono9 _ _) (ac (Is.mono9 _ _) (ac (Is.mono9 _ _) (ac (Is.mono9 _ _) (ac (Is.mono9 _ _) (ac (Is.mono9 _ _) (bU _)))))))))))))))
   case hj4=>exact Jo.congr dZc
   case start4=>exact ⟨fun _=>HP0.out,fun h=>by cases h⟩
   case fin4=>
    intro v9 L w9 hJ hall hF;have hQ:=hJ.p1 (hall 12 dZc);have f33:v9 0=.pointer (some ⟨g,0,none⟩):=hF 0 dZc dZc;have f34:v9 1=.pointer (some ⟨g,0,none⟩):=hF 1 dZc dZc;have f35:v9 2=.pointer (some ⟨g,0,none⟩):=hF 2 dZc dZc;have f36:v9 3=.pointer (some ⟨g,4,none⟩):=hF 3 dZc dZc;have f37:v9 4=.slice xa tn xc:=hF 4 dZc dZc;have f38:v9 5=.pointer (some ⟨g,0,none⟩):=hF 5 dZc dZc;have f39:v9 6=.pointer (some ⟨g,0,none⟩):=hF 6 dZc dZc;have f40:v9 7=.pointer (some ⟨g,0,none⟩):=hF 7 dZc dZc;have f41:v9 8=.pointer (some ⟨g,10,none⟩):=hF 8 dZc dZc;have f42:v9 9=.slice zsa zsn zsc:=hF 9 dZc dZc;have f43:v9 10=.int .i64 zsn:=hF 10 dZc dZc;have f44:v9 11=.int .u64 zsn:=hF 11 dZc dZc;have f45:v9 12=.int .i64 ck:=hF 12 dZc dZc;have f2:v9 13=.int .i64 ck:=hF 13 dZc dZc;clear hJ hall hF;simp only [aO,List.set_cons_succ,List.set_cons_zero,Nat.reduceAdd,f33,f34,f35,f36,f37,f38,f39,f40,f41,f42,f43,f44,f45,f2];clear f2 f33 f34 f35 f36 f37 f38 f39 f40 f41 f42 f43 f44 f45;rw [hP4] at hQ;have HST4:=hZz hQ.1;have HKQ4:=hZz hQ.2;have q4:w9.cell? ⟨g,4,none⟩=some (.slice xa tn xc):=hQ.1.box.cell 4;have hgl4:=hQ.1.lt;clear hQ;by_cases hck0:ck=0
    ·subst hck0;cases hf:TL.find? (bC 1) with
     | none=>
       obtain rfl:=HZ3.out (by first | rfl | trivial) (by first | rfl | trivial) hf;have HF:=hZz (HFD.out _ _ _ HST4.out);rw [hf] at HF;simp only [dE,sg0,Sg.val,Option.isSome_none] at HF;clear hf;go_wp2_with fail;refine HF.out.mono ?_;rintro r w4 ⟨rfl,hb4⟩;have HK4:Hid (∀o,Kq g w (w4.alloc o)):=hZz (fun o=>(HKQ4.out.trans (Kq.later (Nat.le_of_lt hgl4) hb4)).alloc (by have:=hb4.size;omega) o);clear hb4;go_wp2;go_ret;exact ⟨rfl,fun e=>(by cases e),HK4.out _⟩
     | some d=>
       obtain rfl:=HZ4.out (by first | rfl | trivial) (by first | rfl | trivial) (by rw [hf];simp);have HF:=hZz (HFD.out _ _ _ HST4.out);rw [hf] at HF;obtain ⟨d0,d1,d2,d3,d4,d5,d6⟩:=d;simp only [dE,Sg.val,Option.isSome_some] at HF;clear hf;go_wp2_with fail;refine HF.out.mono ?_;rintro r w4 ⟨rfl,hb4⟩;have HK4:Hid (∀o,Kq g w (w4.alloc o)):=hZz (fun o=>(HKQ4.out.trans (Kq.later (Nat.le_of_lt hgl4) hb4)).alloc (by have:=hb4.size;omega) o);have HS4:=hZz (fun o=>(HST4.out.later hb4).alloc o);clear hb4;go_wp2;go_ret;exact ⟨rfl,fun _=>⟨_,HS4.out _⟩,HK4.out _⟩
    ·obtain rfl:=HZ2.out (by first | rfl | trivial) hck0;have hckb:(ck != 0)=true:=by rw [bne_iff_ne];exact hck0
     go_wp2;go_ret;exact ⟨rfl,fun e=>absurd e hck0,HKQ4.out⟩
   case steps4=>
    refine ⟨?_,?_,?_,?_,?_,?_,?_,?_,?_,?_,?_,?_,?_,?_,trivial⟩;all_goals intro L y w9 hJ hL hy0 hp0 hcl hun
    all_goals have hy:=hZz hy0
    all_goals have hp:=hZz hp0
    all_goals clear hy0 hp0 hun
    ·have e1:y 0=.pointer (some ⟨g,0,none⟩):=hy.out 0 dZc;have hJ3:=hZz (hJ.pure (show (12:Nat)≠0 by decide));intro K Q hK;clear hcl hJ;obtain ⟨A,hA,v1⟩:=evA1 (n:=60) e1 dZc;rw [hA] at hK⊢;clear hA hy hp;go_simp;exact hK _ _ ⟨Kq.refl _ _,fun _=>rfl,hJ3.out⟩
    ·have e1:y 33=.pointer (some ⟨g,0,none⟩):=(hp.out 0 dZc).2 dZc;have hJ3:=hZz (hJ.pure (show (12:Nat)≠1 by decide));intro K Q hK;clear hcl hJ;obtain ⟨A,hA,v1⟩:=evA1 (n:=60) e1 dZc;rw [hA] at hK⊢;clear hA hy hp;go_simp;exact hK _ _ ⟨Kq.refl _ _,fun _=>rfl,hJ3.out⟩
    ·have e1:y 34=.pointer (some ⟨g,0,none⟩):=(hp.out 1 dZc).2 dZc;have hJ3:=hZz (hJ.pure (show (12:Nat)≠2 by decide));intro K Q hK;clear hcl hJ;obtain ⟨A,hA,v1⟩:=evA1 (n:=60) e1 dZc;rw [hA] at hK⊢;clear hA hy hp;go_simp;exact hK _ _ ⟨Kq.refl _ _,fun _=>rfl,hJ3.out⟩
    ·have e1:y 35=.pointer (some ⟨g,0,none⟩):=(hp.out 2 dZc).2 dZc;have hJ3:=hZz (hJ.pure (show (12:Nat)≠3 by decide));intro K Q hK;clear hcl hJ;obtain ⟨A,hA,v1⟩:=evA1 (n:=60) e1 dZc;rw [hA] at hK⊢;clear hA hy hp;go_simp;exact hK _ _ ⟨Kq.refl _ _,fun _=>rfl,hJ3.out⟩
    ·have e1:y 36=.pointer (some ⟨g,4,none⟩):=(hp.out 3 dZc).2 dZc;have hLj:L 12=false:=by
      cases h:L 12 with
      | false=>rfl
      | true=>have:=(hcl 12 _ rfl h 4 dZc);rw [hL] at this;cases this
     have hP:=hZz (hJ.p0 hLj);have q4:w9.cell? ⟨g,4,none⟩=some (.slice xa tn xc):=(show Blk w9 g _ _ from (by have h9:=hP.out;rw [hP4] at h9;exact h9.1.box)).cell 4;have hJ3:=hZz (hJ.pure (show (12:Nat)≠4 by decide));intro K Q hK;clear hcl hJ;obtain ⟨A,hA,v1⟩:=evA1 (n:=60) e1 dZc;rw [hA] at hK⊢;clear hA hy hp;go_simp;exact hK _ _ ⟨Kq.refl _ _,fun _=>rfl,hJ3.out⟩
    ·have e1:y 0=.pointer (some ⟨g,0,none⟩):=hy.out 0 dZc;have hJ3:=hZz (hJ.pure (show (12:Nat)≠5 by decide));intro K Q hK;clear hcl hJ;obtain ⟨A,hA,v1⟩:=evA1 (n:=60) e1 dZc;rw [hA] at hK⊢;clear hA hy hp;go_simp;exact hK _ _ ⟨Kq.refl _ _,fun _=>rfl,hJ3.out⟩
    ·have e1:y 38=.pointer (some ⟨g,0,none⟩):=(hp.out 5 dZc).2 dZc;have hJ3:=hZz (hJ.pure (show (12:Nat)≠6 by decide));intro K Q hK;clear hcl hJ;obtain ⟨A,hA,v1⟩:=evA1 (n:=60) e1 dZc;rw [hA] at hK⊢;clear hA hy hp;go_simp;exact hK _ _ ⟨Kq.refl _ _,fun _=>rfl,hJ3.out⟩
    ·have e1:y 39=.pointer (some ⟨g,0,none⟩):=(hp.out 6 dZc).2 dZc;have hJ3:=hZz (hJ.pure (show (12:Nat)≠7 by decide));intro K Q hK;clear hcl hJ;obtain ⟨A,hA,v1⟩:=evA1 (n:=60) e1 dZc;rw [hA] at hK⊢;clear hA hy hp;go_simp;exact hK _ _ ⟨Kq.refl _ _,fun _=>rfl,hJ3.out⟩
    ·have e1:y 40=.pointer (some ⟨g,0,none⟩):=(hp.out 7 dZc).2 dZc;have hJ3:=hZz (hJ.pure (show (12:Nat)≠8 by decide));intro K Q hK;clear hcl hJ;obtain ⟨A,hA,v1⟩:=evA1 (n:=60) e1 dZc;rw [hA] at hK⊢;clear hA hy hp;go_simp;exact hK _ _ ⟨Kq.refl _ _,fun _=>rfl,hJ3.out⟩
    ·have e1:y 41=.pointer (some ⟨g,10,none⟩):=(hp.out 8 dZc).2 dZc;have hLj:L 12=false:=by
      cases h:L 12 with
      | false=>rfl
      | true=>have:=(hcl 10 _ rfl (hcl 11 _ rfl (hcl 12 _ rfl h 11 dZc) 10 dZc) 9 dZc);rw [hL] at this;cases this
     have hP:=hZz (hJ.p0 hLj);have q10:w9.cell? ⟨g,10,none⟩=some (.slice zsa zsn zsc):=(show Blk w9 g _ _ from (by have h9:=hP.out;rw [hP4] at h9;exact h9.1.box)).cell 10;have hJ3:=hZz (hJ.pure (show (12:Nat)≠9 by decide));intro K Q hK;clear hcl hJ;obtain ⟨A,hA,v1⟩:=evA1 (n:=60) e1 dZc;rw [hA] at hK⊢;clear hA hy hp;go_simp;exact hK _ _ ⟨Kq.refl _ _,fun _=>rfl,hJ3.out⟩
    ·have e1:y 42=.slice zsa zsn zsc:=(hp.out 9 dZc).2 dZc;have hJ3:=hZz (hJ.pure (show (12:Nat)≠10 by decide));intro K Q hK;clear hcl hJ;obtain ⟨A,hA,v1⟩:=evA1 (n:=60) e1 dZc;rw [hA] at hK⊢;clear hA hy hp;go_simp;exact hK _ _ ⟨Kq.refl _ _,fun _=>rfl,hJ3.out⟩
    ·have e1:y 43=.int .i64 zsn:=(hp.out 10 dZc).2 dZc;have hJ3:=hZz (hJ.pure (show (12:Nat)≠11 by decide));intro K Q hK;clear hcl hJ;obtain ⟨A,hA,v1⟩:=evA1 (n:=60) e1 dZc;rw [hA] at hK⊢;clear hA hy hp;go_simp;exact hK _ _ ⟨Kq.refl _ _,fun _=>by rw [HW1.out];rfl,hJ3.out⟩
    ·have e1:y 37=.slice xa tn xc:=(hp.out 4 dZc).2 dZc;have e2:y 44=.int .u64 zsn:=(hp.out 11 dZc).2 dZc;have hP:=hZz (hJ.p0 hL);have hst4:=hP.out;rw [hP4] at hst4;have hlt4:=hst4.1.lt;intro K Q hK;clear hcl hJ;obtain ⟨A,hA,v1,v2⟩:=evA2 (n:=60) e1 e2 dZc dZc;rw [hA] at hK⊢;clear hA hy hp;go_simp;go_at_call 47
     refine (HCK.out _ _ _ hst4.1).mono ?_;rintro r w7 ⟨rfl,hb7⟩;have hk7:Kq g w9 w7:=Kq.later (Nat.le_of_lt hlt4) hb7;exact hK _ _ ⟨hk7,fun _=>rfl,Jo.second (by rw [hP4];exact ⟨hst4.1.later hb7,hst4.2.trans hk7⟩)⟩
    ·have e1:y 45=.int .i64 ck:=(hp.out 12 dZc).2 dZc;have hJ3:=hZz (hJ.pure (show (12:Nat)≠13 by decide));intro K Q hK;clear hcl hJ;obtain ⟨A,hA,v1⟩:=evA1 (n:=60) e1 dZc;rw [hA] at hK⊢;clear hA hy hp;go_simp;exact hK _ _ ⟨Kq.refl _ _,fun _=>rfl,hJ3.out⟩
  ·obtain rfl:=HZ1.out hte;have hteb:(te != 0)=true:=by rw [bne_iff_ne];exact hte
   go_wp2;go_ret;exact ⟨rfl,fun e=>absurd e hte,HKQ.out⟩
 case steps1=>
  refine ⟨?_,?_,?_,?_,?_,?_,?_,?_,?_,?_,?_,?_,?_,?_,?_,?_,?_,?_,?_,?_,?_,?_,?_,?_,?_,?_,?_,trivial⟩;all_goals intro L y w9 hJ hL hy0 hp0 hcl hun
  all_goals have hy:=hZz hy0
  all_goals have hp:=hZz hp0
  all_goals clear hy0 hp0 hun
  ·have e1:y 0=.pointer (some ⟨g,0,none⟩):=hy.out 0 dZc;have hJ3:=hZz (hJ.pure (show (25:Nat)≠0 by decide));intro K Q hK;clear hcl hJ;obtain ⟨A,hA,v1⟩:=evA1 (n:=60) e1 dZc;rw [hA] at hK⊢;clear hA hy hp;go_simp;exact hK _ _ ⟨Kq.refl _ _,fun _=>rfl,hJ3.out⟩
  ·have e1:y 0=.pointer (some ⟨g,0,none⟩):=hy.out 0 dZc;have hJ3:=hZz (hJ.pure (show (25:Nat)≠1 by decide));intro K Q hK;clear hcl hJ;obtain ⟨A,hA,v1⟩:=evA1 (n:=60) e1 dZc;rw [hA] at hK⊢;clear hA hy hp;go_simp;exact hK _ _ ⟨Kq.refl _ _,fun _=>rfl,hJ3.out⟩
  ·have e1:y 7=.pointer (some ⟨g,0,none⟩):=(hp.out 1 dZc).2 dZc;have hJ3:=hZz (hJ.pure (show (25:Nat)≠2 by decide));intro K Q hK;clear hcl hJ;obtain ⟨A,hA,v1⟩:=evA1 (n:=60) e1 dZc;rw [hA] at hK⊢;clear hA hy hp;go_simp;exact hK _ _ ⟨Kq.refl _ _,fun _=>rfl,hJ3.out⟩
  ·have e1:y 8=.pointer (some ⟨g,0,none⟩):=(hp.out 2 dZc).2 dZc;have hJ3:=hZz (hJ.pure (show (25:Nat)≠3 by decide));intro K Q hK;clear hcl hJ;obtain ⟨A,hA,v1⟩:=evA1 (n:=60) e1 dZc;rw [hA] at hK⊢;clear hA hy hp;go_simp;exact hK _ _ ⟨Kq.refl _ _,fun _=>rfl,hJ3.out⟩
  ·have e1:y 9=.pointer (some ⟨g,0,none⟩):=(hp.out 3 dZc).2 dZc;have hJ3:=hZz (hJ.pure (show (25:Nat)≠4 by decide));intro K Q hK;clear hcl hJ;obtain ⟨A,hA,v1⟩:=evA1 (n:=60) e1 dZc;rw [hA] at hK⊢;clear hA hy hp;go_simp;exact hK _ _ ⟨Kq.refl _ _,fun _=>rfl,hJ3.out⟩
  ·have e1:y 10=.pointer (some ⟨g,10,none⟩):=(hp.out 4 dZc).2 dZc;have hLj:L 25=false:=by
    cases h:L 25 with
    | false=>rfl
    | true=>have:=(hcl 18 _ rfl (hcl 19 _ rfl (hcl 20 _ rfl (hcl 25 _ rfl h 20 dZc) 19 dZc) 18 dZc) 5 dZc);rw [hL] at this;cases this
   have hP:=hZz (hJ.p0 hLj);have q10:w9.cell? ⟨g,10,none⟩=some (.slice zsa zsn zsc):=(HPB.out _ hP.out).cell 10;have hJ3:=hZz (hJ.pure (show (25:Nat)≠5 by decide));intro K Q hK;clear hcl hJ;obtain ⟨A,hA,v1⟩:=evA1 (n:=60) e1 dZc;rw [hA] at hK⊢;clear hA hy hp;go_simp;exact hK _ _ ⟨Kq.refl _ _,fun _=>rfl,hJ3.out⟩
  ·have e1:y 0=.pointer (some ⟨g,0,none⟩):=hy.out 0 dZc;have hJ3:=hZz (hJ.pure (show (25:Nat)≠6 by decide));intro K Q hK;clear hcl hJ;obtain ⟨A,hA,v1⟩:=evA1 (n:=60) e1 dZc;rw [hA] at hK⊢;clear hA hy hp;go_simp;exact hK _ _ ⟨Kq.refl _ _,fun _=>rfl,hJ3.out⟩
  ·have e1:y 12=.pointer (some ⟨g,0,none⟩):=(hp.out 6 dZc).2 dZc;have hJ3:=hZz (hJ.pure (show (25:Nat)≠7 by decide));intro K Q hK;clear hcl hJ;obtain ⟨A,hA,v1⟩:=evA1 (n:=60) e1 dZc;rw [hA] at hK⊢;clear hA hy hp;go_simp;exact hK _ _ ⟨Kq.refl _ _,fun _=>rfl,hJ3.out⟩
  ·have e1:y 13=.pointer (some ⟨g,0,none⟩):=(hp.out 7 dZc).2 dZc;have hJ3:=hZz (hJ.pure (show (25:Nat)≠8 by decide));intro K Q hK;clear hcl hJ;obtain ⟨A,hA,v1⟩:=evA1 (n:=60) e1 dZc;rw [hA] at hK⊢;clear hA hy hp;go_simp;exact hK _ _ ⟨Kq.refl _ _,fun _=>rfl,hJ3.out⟩
  ·have e1:y 14=.pointer (some ⟨g,0,none⟩):=(hp.out 8 dZc).2 dZc;have hJ3:=hZz (hJ.pure (show (25:Nat)≠9 by decide));intro K Q hK;clear hcl hJ;obtain ⟨A,hA,v1⟩:=evA1 (n:=60) e1 dZc;rw [hA] at hK⊢;clear hA hy hp;go_simp;exact hK _ _ ⟨Kq.refl _ _,fun _=>rfl,hJ3.out⟩
  ·have e1:y 15=.pointer (some ⟨g,0,none⟩):=(hp.out 9 dZc).2 dZc;have hJ3:=hZz (hJ.pure (show (25:Nat)≠10 by decide));intro K Q hK;clear hcl hJ;obtain ⟨A,hA,v1⟩:=evA1 (n:=60) e1 dZc;rw [hA] at hK⊢;clear hA hy hp;go_simp;exact hK _ _ ⟨Kq.refl _ _,fun _=>rfl,hJ3.out⟩
  ·have e1:y 16=.pointer (some ⟨g,2,none⟩):=(hp.out 10 dZc).2 dZc;have hLj:L 25=false:=by
    cases h:L 25 with
    | false=>rfl
    | true=>have:=(hcl 18 _ rfl (hcl 19 _ rfl (hcl 20 _ rfl (hcl 25 _ rfl h 20 dZc) 19 dZc) 18 dZc) 11 dZc);rw [hL] at this;cases this
   have hP:=hZz (hJ.p0 hLj);have q2:w9.cell? ⟨g,2,none⟩=some (.int .u64 m.m.s):=(HPB.out _ hP.out).cell 2;have hJ3:=hZz (hJ.pure (show (25:Nat)≠11 by decide));intro K Q hK;clear hcl hJ;obtain ⟨A,hA,v1⟩:=evA1 (n:=60) e1 dZc;rw [hA] at hK⊢;clear hA hy hp;go_simp;exact hK _ _ ⟨Kq.refl _ _,fun _=>rfl,hJ3.out⟩
  ·have e1:y 0=.pointer (some ⟨g,0,none⟩):=hy.out 0 dZc;have hJ3:=hZz (hJ.pure (show (25:Nat)≠12 by decide));intro K Q hK;clear hcl hJ;obtain ⟨A,hA,v1⟩:=evA1 (n:=60) e1 dZc;rw [hA] at hK⊢;clear hA hy hp;go_simp;exact hK _ _ ⟨Kq.refl _ _,fun _=>rfl,hJ3.out⟩
  ·have e1:y 18=.pointer (some ⟨g,0,none⟩):=(hp.out 12 dZc).2 dZc;have hJ3:=hZz (hJ.pure (show (25:Nat)≠13 by decide));intro K Q hK;clear hcl hJ;obtain ⟨A,hA,v1⟩:=evA1 (n:=60) e1 dZc;rw [hA] at hK⊢;clear hA hy hp;go_simp;exact hK _ _ ⟨Kq.refl _ _,fun _=>rfl,hJ3.out⟩
  ·have e1:y 19=.pointer (some ⟨g,0,none⟩):=(hp.out 13 dZc).2 dZc;have hJ3:=hZz (hJ.pure (show (25:Nat)≠14 by decide));intro K Q hK;clear hcl hJ;obtain ⟨A,hA,v1⟩:=evA1 (n:=60) e1 dZc;rw [hA] at hK⊢;clear hA hy hp;go_simp;exact hK _ _ ⟨Kq.refl _ _,fun _=>rfl,hJ3.out⟩
  ·have e1:y 20=.pointer (some ⟨g,0,none⟩):=(hp.out 14 dZc).2 dZc;have hJ3:=hZz (hJ.pure (show (25:Nat)≠15 by decide));intro K Q hK;clear hcl hJ;obtain ⟨A,hA,v1⟩:=evA1 (n:=60) e1 dZc;rw [hA] at hK⊢;clear hA hy hp;go_simp;exact hK _ _ ⟨Kq.refl _ _,fun _=>rfl,hJ3.out⟩
  ·have e1:y 21=.pointer (some ⟨g,0,none⟩):=(hp.out 15 dZc).2 dZc;have hJ3:=hZz (hJ.pure (show (25:Nat)≠16 by decide));intro K Q hK;clear hcl hJ;obtain ⟨A,hA,v1⟩:=evA1 (n:=60) e1 dZc;rw [hA] at hK⊢;clear hA hy hp;go_simp;exact hK _ _ ⟨Kq.refl _ _,fun _=>rfl,hJ3.out⟩
  ·have e1:y 22=.pointer (some ⟨g,3,none⟩):=(hp.out 16 dZc).2 dZc;have hLj:L 25=false:=by
    cases h:L 25 with
    | false=>rfl
    | true=>have:=(hcl 18 _ rfl (hcl 19 _ rfl (hcl 20 _ rfl (hcl 25 _ rfl h 20 dZc) 19 dZc) 18 dZc) 17 dZc);rw [hL] at this;cases this
   have hP:=hZz (hJ.p0 hLj);have q3:w9.cell? ⟨g,3,none⟩=some (.int .i64 m.m.c):=(HPB.out _ hP.out).cell 3;have hJ3:=hZz (hJ.pure (show (25:Nat)≠17 by decide));intro K Q hK;clear hcl hJ;obtain ⟨A,hA,v1⟩:=evA1 (n:=60) e1 dZc;rw [hA] at hK⊢;clear hA hy hp;go_simp;exact hK _ _ ⟨Kq.refl _ _,fun _=>rfl,hJ3.out⟩
  ·have e1:y 11=.slice zsa zsn zsc:=(hp.out 5 dZc).2 dZc;have e2:y 17=.int .u64 m.m.s:=(hp.out 11 dZc).2 dZc;have e3:y 23=.int .i64 m.m.c:=(hp.out 17 dZc).2 dZc;have hLj:L 25=false:=by
    cases h:L 25 with
    | false=>rfl
    | true=>have:=(hcl 19 _ rfl (hcl 20 _ rfl (hcl 25 _ rfl h 20 dZc) 19 dZc) 18 dZc);rw [hL] at this;cases this
   have hP:=hZz (hJ.p0 hLj);intro K Q hK;clear hcl hJ;obtain ⟨A,hA,v1,v2,v3⟩:=evA3 (n:=60) e1 e2 e3 dZc dZc dZc;rw [hA] at hK⊢;clear hA hy hp;go_simp;go_at_call 46
   refine (HPC.out _ hP.out).mono ?_;rintro r w7 ⟨⟨u,rfl,ho⟩,hp7,hk7⟩;exact hK _ _ ⟨hk7,fun _=>⟨u,rfl,ho⟩,Jo.call dZc hLj hp7⟩
  ·have e1:(OwE (g+1) 65 7 tn (bQ TL) te) (y 24) w9:=(hp.out 18 dZc).2 dZc;obtain ⟨u1,hv1,ho1⟩:=e1;have hJ3:=hZz (hJ.pure (show (25:Nat)≠19 by decide));intro K Q hK;clear hcl hJ;obtain ⟨A,hA,v1⟩:=evA1 (n:=60) hv1 dZc;rw [hA] at hK⊢;clear hA hy hp;go_simp;exact hK _ _ ⟨Kq.refl _ _,fun _=>⟨_,rfl,ho1⟩,hJ3.out⟩
  ·have e1:(OwE (g+1) 65 7 tn (bQ TL) te) (y 5) w9:=(hp.out 19 dZc).2 dZc;obtain ⟨u1,hv1,ho1⟩:=e1;have hJ3:=hZz (hJ.pure (show (25:Nat)≠20 by decide));intro K Q hK;clear hcl hJ;obtain ⟨A,hA,v1⟩:=evA1 (n:=60) hv1 dZc;rw [hA] at hK⊢;clear hA hy hp;go_simp;exact hK _ _ ⟨Kq.refl _ _,fun _=>ho1,hJ3.out⟩
  ·have e1:(OwE (g+1) 65 7 tn (bQ TL) te) (y 5) w9:=(hp.out 19 dZc).2 dZc;obtain ⟨u1,hv1,ho1⟩:=e1;have hJ3:=hZz (hJ.pure (show (25:Nat)≠21 by decide));intro K Q hK;clear hcl hJ;obtain ⟨A,hA,v1⟩:=evA1 (n:=60) hv1 dZc;rw [hA] at hK⊢;clear hA hy hp;go_simp;exact hK _ _ ⟨Kq.refl _ _,fun _=>rfl,hJ3.out⟩
  ·have e1:y 6=.pointer (some ⟨g,0,none⟩):=(hp.out 0 dZc).2 dZc;have hJ3:=hZz (hJ.pure (show (25:Nat)≠22 by decide));intro K Q hK;clear hcl hJ;obtain ⟨A,hA,v1⟩:=evA1 (n:=60) e1 dZc;rw [hA] at hK⊢;clear hA hy hp;go_simp;exact hK _ _ ⟨Kq.refl _ _,fun _=>rfl,hJ3.out⟩
  ·have e1:y 27=.pointer (some ⟨g,0,none⟩):=(hp.out 22 dZc).2 dZc;have hJ3:=hZz (hJ.pure (show (25:Nat)≠23 by decide));intro K Q hK;clear hcl hJ;obtain ⟨A,hA,v1⟩:=evA1 (n:=60) e1 dZc;rw [hA] at hK⊢;clear hA hy hp;go_simp;exact hK _ _ ⟨Kq.refl _ _,fun _=>rfl,hJ3.out⟩
  ·have e1:y 28=.pointer (some ⟨g,0,none⟩):=(hp.out 23 dZc).2 dZc;have hJ3:=hZz (hJ.pure (show (25:Nat)≠24 by decide));intro K Q hK;clear hcl hJ;obtain ⟨A,hA,v1⟩:=evA1 (n:=60) e1 dZc;rw [hA] at hK⊢;clear hA hy hp;go_simp;exact hK _ _ ⟨Kq.refl _ _,fun _=>rfl,hJ3.out⟩
  ·have e1:y 29=.pointer (some ⟨g,4,none⟩):=(hp.out 24 dZc).2 dZc;have e2:(Ow (g+1) 65 7 tn (bQ TL)) (y 25) w9:=(hp.out 20 dZc).2 dZc;obtain ⟨⟨xa,xn,xc⟩,-,hxn,hv2⟩:=dP e2;simp only at hxn hv2;subst hxn;have hP:=hZz (hJ.p0 hL);obtain ⟨z0,z1,z2⟩:=HFZ.out _ hP.out;have hps:=HPS.out _ xa xc hP.out (by have e:=e2;rw [hv2] at e;exact e);intro K Q hK;clear hcl hJ;obtain ⟨A,hA,v1,v2⟩:=evA2 (n:=60) e1 hv2 dZc dZc;rw [hA] at hK⊢;clear hA hy hp;go_simp;exact hK undef _ ⟨hps.2,fun h=>absurd h dZc,Jo.second hps.1⟩
  ·have e1:y 26=.int .i64 te:=(hp.out 21 dZc).2 dZc;have hJ3:=hZz (hJ.pure (show (25:Nat)≠26 by decide));intro K Q hK;clear hcl hJ;obtain ⟨A,hA,v1⟩:=evA1 (n:=60) e1 dZc;rw [hA] at hK⊢;clear hA hy hp;go_simp;exact hK _ _ ⟨Kq.refl _ _,fun _=>rfl,hJ3.out⟩
end Go.Proofs.YtclgbdfkdbbinaaGreat
