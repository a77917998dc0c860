/-
  What is proved here: words and contracts, a part of those that the statement rests on (B16).
  Conditions: none but that the arguments are values of their types.
-/
import Derived.Test.YtclgbdfkdbbinaaGreatB0
import Derived.Test.YtclgbdfkdbbinaaGreatB10
import Derived.Test.YtclgbdfkdbbinaaGreatB11
import Derived.Test.YtclgbdfkdbbinaaGreatB13
import Derived.Test.YtclgbdfkdbbinaaGreatB15
import Derived.Test.YtclgbdfkdbbinaaGreatB9
import Derived.Test.YtclgbdfkdbbinaaGreatB4
set_option linter.unusedVariables false
set_option linter.unusedSimpArgs false
set_option maxRecDepth 100000
set_option maxHeartbeats 12800000
namespace Go.Proofs.YtclgbdfkdbbinaaGreat
open Go.RowKit
def gR:List (Pm→Int×Pm):=[fO,soI,ndI,yI,nmI,rI]
def nx (m:Pm):Int×Pm:=
 match m.m.sg.find? (bC 2) with
 | none=>(0,m)
 | some d=>if (dS (fm m.m.zs d.ot d.fi).2).1≠0 then ((dS (fm m.m.zs d.ot d.fi).2).1,m)
   else let D:=(dS (fm m.m.zs d.ot d.fi).2).2
    cS gR { m with N:=D.nd,so:=D.v.getD 0 0,st:=D.v.getD 1 0,sz:=D.v.getD 2 0,yt:=D.v.getD 3 0,yn:=D.v.getD 4 0,rt:=D.v.getD 5 0,rz:=D.v.getD 6 0 }
def jU (q:Nat) (m:Pm):Prop:=if q≤2 then m.m.nd=[]∧m.m.nm=[] else if q≤4 then m.m.nm=[] else True
theorem oO (q:Nat) (m:Pm) (hq:q<6) (h:jU q m) (h0:((gR.getD q fun m=>(0,m)) m).1=0):jU (q+1) ((gR.getD q fun m=>(0,m)) m).2:=by
 have hq:q=0∨q=1∨q=2∨q=3∨q=4∨q=5:=by omega
 rcases hq with rfl | rfl | rfl | rfl | rfl | rfl
 ·show jU 1 (fO m).2;unfold fO;split<;>exact h
 ·show jU 2 (soI m).2;unfold soI;split<;>exact h
 ·show jU 3 (ndI m).2;unfold ndI;have h:m.m.nd=[]∧m.m.nm=[]:=h;split<;>exact h.2
 ·show jU 4 (yI m).2;unfold yI;have h:m.m.nm=[]:=h
  dsimp only
  repeat' split
  all_goals exact h
 ·exact trivial
 ·exact trivial
theorem vm (g:Nat) (q:Nat) (hq:q<6):iF g ([51,52,53,54,55,56].getD q 0) (jU q) (gR.getD q fun m=>(0,m)):=by
 have hq:q=0∨q=1∨q=2∨q=3∨q=4∨q=5:=by omega
 rcases hq with rfl | rfl | rfl | rfl | rfl | rfl
 ·exact (qH g).at' _
 ·exact (vU g).at' _
 ·exact fun p m w h=>xd g p m w h.1
 ·exact (y9_ok g).at' _
 ·exact fun p m w h=>wC g p m w h
 ·exact (r9_ok g).at' _
theorem Blk.info9 {w:World} {g:Nat} {c0 c1 c2 c3 c4 c5 c6 c7 c8 c9 c10 c11 c12 c13 c14 c15 c16 c17 c18 c19 c20:Value} {t:TypeId} (h:Blk w g #[c0,c1,c2,c3,c4,c5,c6,c7,c8,c9,c10,c11,c12,c13,c14,c15,c16,c17,c18,c19,c20] t) (u0 u1 u2 u3 u4 u5 u6 u7:Value):Blk ((((((((w.setCell ⟨g,12,none⟩ u0).setCell ⟨g,13,none⟩ u1).setCell ⟨g,14,none⟩ u2).setCell ⟨g,15,none⟩ u3).setCell ⟨g,16,none⟩ u4).setCell ⟨g,17,none⟩ u5).setCell ⟨g,18,none⟩ u6).setCell ⟨g,19,none⟩ u7) g #[c0,c1,c2,c3,c4,c5,c6,c7,c8,c9,c10,c11,u0,u1,u2,u3,u4,u5,u6,u7,c20] t:=by
 have h0:Blk (w.setCell ⟨g,12,none⟩ u0) g #[c0,c1,c2,c3,c4,c5,c6,c7,c8,c9,c10,c11,u0,c13,c14,c15,c16,c17,c18,c19,c20] t:=by have q:=h.set 12 u0;exact q
 have h1:Blk ((w.setCell ⟨g,12,none⟩ u0).setCell ⟨g,13,none⟩ u1) g #[c0,c1,c2,c3,c4,c5,c6,c7,c8,c9,c10,c11,u0,u1,c14,c15,c16,c17,c18,c19,c20] t:=by have q:=h0.set 13 u1;exact q
 have h2:Blk (((w.setCell ⟨g,12,none⟩ u0).setCell ⟨g,13,none⟩ u1).setCell ⟨g,14,none⟩ u2) g #[c0,c1,c2,c3,c4,c5,c6,c7,c8,c9,c10,c11,u0,u1,u2,c15,c16,c17,c18,c19,c20] t:=by have q:=h1.set 14 u2;exact q
 have h3:Blk ((((w.setCell ⟨g,12,none⟩ u0).setCell ⟨g,13,none⟩ u1).setCell ⟨g,14,none⟩ u2).setCell ⟨g,15,none⟩ u3) g #[c0,c1,c2,c3,c4,c5,c6,c7,c8,c9,c10,c11,u0,u1,u2,u3,c16,c17,c18,c19,c20] t:=by have q:=h2.set 15 u3;exact q
 have h4:Blk (((((w.setCell ⟨g,12,none⟩ u0).setCell ⟨g,13,none⟩ u1).setCell ⟨g,14,none⟩ u2).setCell ⟨g,15,none⟩ u3).setCell ⟨g,16,none⟩ u4) g #[c0,c1,c2,c3,c4,c5,c6,c7,c8,c9,c10,c11,u0,u1,u2,u3,u4,c17,c18,c19,c20] t:=by have q:=h3.set 16 u4;exact q
 have h5:Blk ((((((w.setCell ⟨g,12,none⟩ u0).setCell ⟨g,13,none⟩ u1).setCell ⟨g,14,none⟩ u2).setCell ⟨g,15,none⟩ u3).setCell ⟨g,16,none⟩ u4).setCell ⟨g,17,none⟩ u5) g #[c0,c1,c2,c3,c4,c5,c6,c7,c8,c9,c10,c11,u0,u1,u2,u3,u4,u5,c18,c19,c20] t:=by have q:=h4.set 17 u5;exact q
 have h6:Blk (((((((w.setCell ⟨g,12,none⟩ u0).setCell ⟨g,13,none⟩ u1).setCell ⟨g,14,none⟩ u2).setCell ⟨g,15,none⟩ u3).setCell ⟨g,16,none⟩ u4).setCell ⟨g,17,none⟩ u5).setCell ⟨g,18,none⟩ u6) g #[c0,c1,c2,c3,c4,c5,c6,c7,c8,c9,c10,c11,u0,u1,u2,u3,u4,u5,u6,c19,c20] t:=by have q:=h5.set 18 u6;exact q
 have h7:Blk ((((((((w.setCell ⟨g,12,none⟩ u0).setCell ⟨g,13,none⟩ u1).setCell ⟨g,14,none⟩ u2).setCell ⟨g,15,none⟩ u3).setCell ⟨g,16,none⟩ u4).setCell ⟨g,17,none⟩ u5).setCell ⟨g,18,none⟩ u6).setCell ⟨g,19,none⟩ u7) g #[c0,c1,c2,c3,c4,c5,c6,c7,c8,c9,c10,c11,u0,u1,u2,u3,u4,u5,u6,u7,c20] t:=by have q:=h6.set 19 u7;exact q
 exact h7
theorem Kq.info9 (g:Nat) (w:World) (u0 u1 u2 u3 u4 u5 u6 u7:Value):Kq g w ((((((((w.setCell ⟨g,12,none⟩ u0).setCell ⟨g,13,none⟩ u1).setCell ⟨g,14,none⟩ u2).setCell ⟨g,15,none⟩ u3).setCell ⟨g,16,none⟩ u4).setCell ⟨g,17,none⟩ u5).setCell ⟨g,18,none⟩ u6).setCell ⟨g,19,none⟩ u7):=
 ((((((((Kq.refl g w).set 12 u0).set 13 u1).set 14 u2).set 15 u3).set 16 u4).set 17 u5).set 18 u6).set 19 u7
theorem sR {g:Nat} {w4:World} {p:Pz} {m:Pm} (h:Ps9 g w4 p m) (o:Obj) (na:Option Addr) (nn nc:Nat) (N:List Int) (x0 x1 x2 x3 x4 x5 x6:Int) (hn:N.length=nn) (ho:w4.ownsRow (g+1) 24 1 (.slice na nn nc) nn (N.map (Value.int .u64))) (hb:∀n∈N,0≤n∧n≤18446744073709551615) (hl:N.length≤65537) (hx:∀n∈[x0,x1,x2,x3,x4,x5,x6],0≤n∧n≤18446744073709551615) :
 Ps9 g (((((((((w4.setCell ⟨g,12,none⟩ (.slice na nn nc)).setCell ⟨g,13,none⟩ (.int .u64 x0)).setCell ⟨g,14,none⟩ (.int .u64 x1)).setCell ⟨g,15,none⟩ (.int .u64 x2)).setCell ⟨g,16,none⟩ (.int .u64 x3)).setCell ⟨g,17,none⟩ (.int .u64 x4)).setCell ⟨g,18,none⟩ (.int .u64 x5)).setCell ⟨g,19,none⟩ (.int .u64 x6)).alloc o)
  { p with nd:=⟨na,nn,nc⟩,so:=x0,st:=x1,sz:=x2,yt:=x3,yn:=x4,rt:=x5,rz:=x6 } { m with N:=N,so:=x0,st:=x1,sz:=x2,yt:=x3,yn:=x4,rt:=x5,rz:=x6 }∧
 Kq g w4 (((((((((w4.setCell ⟨g,12,none⟩ (.slice na nn nc)).setCell ⟨g,13,none⟩ (.int .u64 x0)).setCell ⟨g,14,none⟩ (.int .u64 x1)).setCell ⟨g,15,none⟩ (.int .u64 x2)).setCell ⟨g,16,none⟩ (.int .u64 x3)).setCell ⟨g,17,none⟩ (.int .u64 x4)).setCell ⟨g,18,none⟩ (.int .u64 x5)).setCell ⟨g,19,none⟩ (.int .u64 x6)).alloc o):=by
 have hk:=(Kq.info9 g w4 (.slice na nn nc) (.int .u64 x0) (.int .u64 x1) (.int .u64 x2) (.int .u64 x3) (.int .u64 x4) (.int .u64 x5) (.int .u64 x6)).alloc (by have:=h.lt;simp;omega) o;have hbx:=(h.box.info9 (.slice na nn nc) (.int .u64 x0) (.int .u64 x1) (.int .u64 x2) (.int .u64 x3) (.int .u64 x4) (.int .u64 x5) (.int .u64 x6)).alloc o;revert hk hbx;generalize (((((((((w4.setCell ⟨g,12,none⟩ (.slice na nn nc)).setCell ⟨g,13,none⟩ (.int .u64 x0)).setCell ⟨g,14,none⟩ (.int .u64 x1)).setCell ⟨g,15,none⟩ (.int .u64 x2)).setCell ⟨g,16,none⟩ (.int .u64 x3)).setCell ⟨g,17,none⟩ (.int .u64 x4)).setCell ⟨g,18,none⟩ (.int .u64 x5)).setCell ⟨g,19,none⟩ (.int .u64 x6)).alloc o)=w5;intro hk hbx;have hr:=h.row.kp hk.kp (Nat.lt_succ_self _);have hN:w5.ownsRow (g+1) 24 1 (.slice na nn nc) N.length (N.map (Value.int .u64)):=by rw [hn];exact cd hk.kp ho (Nat.lt_succ_self _)
 refine ⟨h.next hk hbx ?_ rfl rfl,hk⟩;exact ⟨hr.k,hr.e,hr.s,hr.c,hr.so,hr.sg,hr.nd,hr.nm,hr.sy,hr.rl,hr.zs,hN,hr.t,hr.oks,hr.oky,hr.okr,hr.okz,hb,hr.okt,hr.lz,hl,hr.ly,hr.bs,⟨rfl,hx _ (by simp)⟩,⟨rfl,hx _ (by simp)⟩,⟨rfl,hx _ (by simp)⟩,⟨rfl,hx _ (by simp)⟩,⟨rfl,hx _ (by simp)⟩,⟨rfl,hx _ (by simp)⟩,⟨rfl,hx _ (by simp)⟩,hr.zd,hr.zn⟩
theorem um (g:Nat) (w W:World) (p:Pz) (m:Pm) (h1:Ps9 g W p m) (h2:Kq g w W) (hm:m.m.nd=[]∧m.m.nm=[]) :
 Calls Tryz.prog 18 #[.slice (some ⟨W.heap.size,0,none⟩) 6 6] (W.alloc (.cells #[.func (.func 51) #[.pointer (some ⟨g,0,none⟩)] #[],.func (.func 52) #[.pointer (some ⟨g,0,none⟩)] #[],.func (.func 53) #[.pointer (some ⟨g,0,none⟩)] #[],.func (.func 54) #[.pointer (some ⟨g,0,none⟩)] #[],.func (.func 55) #[.pointer (some ⟨g,0,none⟩)] #[],.func (.func 56) #[.pointer (some ⟨g,0,none⟩)] #[]] 74)) fun r w'=>r=.returned (.int .i64 (cS gR m).1)∧((cS gR m).1=0→∃p,Ps9 g w' p (cS gR m).2)∧Kq g w w':=by
 have h3:=h1.lt;have h4:=jT g W.heap.size 6 [51,52,53,54,55,56] gR #[.func (.func 51) #[.pointer (some ⟨g,0,none⟩)] #[],.func (.func 52) #[.pointer (some ⟨g,0,none⟩)] #[],.func (.func 53) #[.pointer (some ⟨g,0,none⟩)] #[],.func (.func 54) #[.pointer (some ⟨g,0,none⟩)] #[],.func (.func 55) #[.pointer (some ⟨g,0,none⟩)] #[],.func (.func 56) #[.pointer (some ⟨g,0,none⟩)] #[]] 74 p m _ (h1.alloc (.cells #[.func (.func 51) #[.pointer (some ⟨g,0,none⟩)] #[],.func (.func 52) #[.pointer (some ⟨g,0,none⟩)] #[],.func (.func 53) #[.pointer (some ⟨g,0,none⟩)] #[],.func (.func 54) #[.pointer (some ⟨g,0,none⟩)] #[],.func (.func 55) #[.pointer (some ⟨g,0,none⟩)] #[],.func (.func 56) #[.pointer (some ⟨g,0,none⟩)] #[]] 74)) (Blk.new W _ _) oZm rfl oZm
  (fun q hq=>by
   have hq:q=0∨q=1∨q=2∨q=3∨q=4∨q=5:=by omega
   rcases hq with rfl | rfl | rfl | rfl | rfl | rfl<;>rfl)
  (fun q hq=>by
   have hq:q=0∨q=1∨q=2∨q=3∨q=4∨q=5:=by omega
   rcases hq with rfl | rfl | rfl | rfl | rfl | rfl<;>decide)
  jU hm oO (vm g)
 exact h4.mono fun r w' h=>⟨h.1,h.2.1,(h2.alloc (Nat.le_of_lt h3) _).trans h.2.2⟩
theorem vv (g:Nat):iF g 22 (fun m=>m.m.nd=[]∧m.m.nm=[]) nx:=by
 intro p m w hpre h;have H:=hZz h;have hgl:=h.lt;have HPRE:=hZz hpre;have q4:w.cell? ⟨g,4,none⟩=some (.slice p.x.sg.a p.x.sg.n p.x.sg.c):=h.box.cell 4;obtain ⟨Z,hZ⟩:∃Z,nx m=Z:=⟨_,rfl⟩
 have HZ:=hZz hZ;rw [hZ];have HFD:Hid (Calls Tryz.prog 48 #[.slice p.x.sg.a p.x.sg.n p.x.sg.c,.int .u32 2] w fun r w2=>r=.returned (.tuple #[dE (m.m.sg.find? (bC 2)),.bool (m.m.sg.find? (bC 2)).isSome])∧Below w.heap.size w w2):=hZz (by
  have h4:=h.seg;exact ie w.heap.size _ _ _ m.m.sg 2 w h4.1 (lZr _) (by have h5:=h4.2.1;have h6:=h4.2.2;omega))
 have HDO:Hid (∀d,m.m.sg.find? (bC 2)=some d→d.Ok):=hZz (fun d hd=>h.row.oks d (List.mem_of_find?_eq_some hd));have hzl:p.x.zs.n≤65536:=h.bys.2.2.2;obtain ⟨p,hp⟩:∃q:Pz,q=p:=⟨_,rfl⟩
 obtain ⟨⟨k,e,s,c,⟨sga,sgn,sgc⟩,so,⟨nda,ndn,ndc⟩,⟨nma,nmn,nmc⟩,⟨sya,syn,syc⟩,⟨rla,rln,rlc⟩,⟨zsa,zsn,zsc⟩⟩,⟨fia,fin,fic⟩,⟨n0,n1,n2⟩,v0,v1,v2,v3,v4,v5,v6,⟨tba,tbn,tbc⟩⟩:=p;subst hp;simp only at q4 HFD hzl;clear h hpre hZ;cases hf:m.m.sg.find? (bC 2) with
 | none=>
   rw [hf] at HFD;have hz:=HZ.out;unfold nx at hz;rw [hf] at hz;simp only at hz;subst hz;simp only [dE,sg0,Sg.val,Option.isSome_none] at HFD;clear hf HZ HDO;go_enter Tryz.func22,Tryz.ntmps22
   go_wp2_with fail;refine HFD.out.mono ?_;rintro r w1 ⟨rfl,hb1⟩;have HS1:=hZz (fun o=>(H.out.later hb1).alloc o);have HK1:=hZz (fun o=>(Kq.later (Nat.le_of_lt hgl) hb1).alloc (by have:=hb1.size;omega) o);clear hb1;go_wp2;go_ret;exact ⟨rfl,fun _=>⟨_,HS1.out _⟩,HK1.out _⟩
 | some d=>
   rw [hf] at HFD;have hz:=HZ.out;unfold nx at hz;rw [hf] at hz;simp only at hz;have hdok:=HDO.out d hf;have HZ2:=hZz hz.symm;have hdo:=hdok.ot;have hdf:=hdok.fi;obtain ⟨d0,d1,d2,d3,d4,d5,d6⟩:=d;simp only [dE,Sg.val,Option.isSome_some] at HFD;simp only at hdo hdf HZ2;clear hf HZ hz HDO hdok;have HTM:Hid ((fm m.m.zs d2 d4).2.length≤65536∧∀n∈(fm m.m.zs d2 d4).2,0≤n∧n≤255):=hZz ⟨by
    refine Nat.le_trans ?_ H.out.row.lz;unfold fm;split
    ·exact Nat.zero_le _
    ·show (am _ _ _).length≤_;unfold am;rw [List.length_take,List.length_drop];omega,mq H.out.row.okz _ _⟩
   have HCU:Hid (∀w1,Ps9 g w1 ⟨⟨k,e,s,c,⟨sga,sgn,sgc⟩,so,⟨nda,ndn,ndc⟩,⟨nma,nmn,nmc⟩,⟨sya,syn,syc⟩,⟨rla,rln,rlc⟩,⟨zsa,zsn,zsc⟩⟩,⟨fia,fin,fic⟩,⟨n0,n1,n2⟩,v0,v1,v2,v3,v4,v5,v6,⟨tba,tbn,tbc⟩⟩ m→Calls Tryz.prog 49 #[.slice zsa zsn zsc,.int .u64 d2,.int .u64 d4] w1 (gz (fm m.m.zs d2 d4) w1)):=hZz (fun w1 h1=>by
    have h2:=h1.bys;exact nA w1.heap.size zsa zsn zsc m.m.zs d2 d4 w1 h2.1 (lZr _) h2.2.1 h2.2.2.1 oZm hdo.1 hdo.2 hdf.1 hdf.2)
   generalize fm m.m.zs d2 d4=T at HCU HTM HZ2;obtain ⟨te,TL⟩:=T;simp only at HTM HZ2;obtain ⟨tn,htn⟩:∃tn,TL.length=tn:=⟨_,rfl⟩
   have HTN:=hZz htn;go_enter Tryz.func22,Tryz.ntmps22
   go_wp2_with fail;refine HFD.out.mono ?_;rintro r w1 ⟨rfl,hb1⟩;have hgl1:g<w1.heap.size:=Nat.lt_of_lt_of_le hgl hb1.size;have HS1:=hZz ((H.out.later hb1).alloc (.cells #[.int .u32 d0,.int .u32 d1,.int .u64 d2,.int .u64 d3,.int .u64 d4,.int .u64 d5,.int .u64 d6] 65));have HK1:=hZz ((Kq.later (Nat.le_of_lt hgl) hb1).alloc (Nat.le_of_lt hgl1) (.cells #[.int .u32 d0,.int .u32 d1,.int .u64 d2,.int .u64 d3,.int .u64 d4,.int .u64 d5,.int .u64 d6] 65));have HD1:=hZz (Blk.new w1 #[.int .u32 d0,.int .u32 d1,.int .u64 d2,.int .u64 d3,.int .u64 d4,.int .u64 d5,.int .u64 d6] 65);obtain ⟨P0,hP0⟩:∃P0:World→Prop,P0=fun wx=>Ps9 g wx ⟨⟨k,e,s,c,⟨sga,sgn,sgc⟩,so,⟨nda,ndn,ndc⟩,⟨nma,nmn,nmc⟩,⟨sya,syn,syc⟩,⟨rla,rln,rlc⟩,⟨zsa,zsn,zsc⟩⟩,⟨fia,fin,fic⟩,⟨n0,n1,n2⟩,v0,v1,v2,v3,v4,v5,v6,⟨tba,tbn,tbc⟩⟩ m∧Kq g w wx∧Blk wx w1.heap.size #[.int .u32 d0,.int .u32 d1,.int .u64 d2,.int .u64 d3,.int .u64 d4,.int .u64 d5,.int .u64 d6] 65:=⟨_,rfl⟩
   have HP0:Hid (P0 (w1.alloc (.cells #[.int .u32 d0,.int .u32 d1,.int .u64 d2,.int .u64 d3,.int .u64 d4,.int .u64 d5,.int .u64 d6] 65)).drew):=hZz (by rw [hP0];exact ⟨HS1.out.drew,HK1.out.drew (by simp;omega),HD1.out.drew⟩);have HPB:Hid (∀wx,P0 wx→Blk wx g #[.int .i64 k,.int .u64 e,.int .u64 s,.int .i64 c,.slice sga sgn sgc,.string so,.slice nda ndn ndc,.slice nma nmn nmc,.slice sya syn syc,.slice rla rln rlc,.slice zsa zsn zsc,.slice fia fin fic,.slice n0 n1 n2,.int .u64 v0,.int .u64 v1,.int .u64 v2,.int .u64 v3,.int .u64 v4,.int .u64 v5,.int .u64 v6,.slice tba tbn tbc] 72∧Blk wx w1.heap.size #[.int .u32 d0,.int .u32 d1,.int .u64 d2,.int .u64 d3,.int .u64 d4,.int .u64 d5,.int .u64 d6] 65):=hZz (fun wx h1=>by rw [hP0] at h1;exact ⟨h1.1.box,h1.2.2⟩);have HPC:Hid (∀wx,P0 wx→Calls Tryz.prog 49 #[.slice zsa zsn zsc,.int .u64 d2,.int .u64 d4] wx fun r w2=>(∃u,r=.returned (.tuple #[u,.int .i64 te])∧w2.ownsRow (g+1) 5 1 u tn (TL.map (Value.int .u8)))∧P0 w2∧Kq g wx w2):=hZz (fun wx h1=>by
    rw [hP0] at h1;have hl:=h1.1.lt;refine (HCU.out wx h1.1).mono ?_;rintro r w2 ⟨⟨u,hr,ho⟩,hb⟩;simp only at ho;rw [htn] at ho;refine ⟨⟨u,hr,aR ho hl⟩,?_,Kq.later (Nat.le_of_lt hl) hb⟩;rw [hP0];exact ⟨h1.1.later hb,h1.2.1.trans (Kq.later (Nat.le_of_lt hl) hb),h1.2.2.later hb⟩)
   have HR1:=hZz (fun wx (h1:P0 wx)=>(by rw [hP0] at h1;exact ⟨h1.1,h1.2.1⟩:Ps9 g wx ⟨⟨k,e,s,c,⟨sga,sgn,sgc⟩,so,⟨nda,ndn,ndc⟩,⟨nma,nmn,nmc⟩,⟨sya,syn,syc⟩,⟨rla,rln,rlc⟩,⟨zsa,zsn,zsc⟩⟩,⟨fia,fin,fic⟩,⟨n0,n1,n2⟩,v0,v1,v2,v3,v4,v5,v6,⟨tba,tbn,tbc⟩⟩ m∧Kq g w wx));clear hP0 HCU htn hb1 HS1 HK1 HD1 HFD;go_wp2_with fail;refine aL (by kernel_rfl) 59 rfl [21,22,23,24,25,26,27,28,29,30,20,31,32,5,6] (Kq (g)) (aU [Is (.pointer (some ⟨g,0,none⟩)),Is (.pointer (some ⟨g,0,none⟩)),Is (.pointer (some ⟨g,0,none⟩)),Is (.pointer (some ⟨g,10,none⟩)),Is (.slice zsa zsn zsc),Is (.pointer (some ⟨w1.heap.size,2,none⟩)),Is (.int .u64 d2),Is (.pointer (some ⟨w1.heap.size,4,none⟩)),Is (.int .u64 d4),(OwE (g+1) 5 1 tn (TL.map (Value.int .u8)) te),(OwE (g+1) 5 1 tn (TL.map (Value.int .u8)) te),(Ow (g+1) 5 1 tn (TL.map (Value.int .u8))),Is (.int .i64 te),(Ow (g+1) 5 1 tn (TL.map (Value.int .u8))),Is (.int .i64 te)]) (Jo 9 (P0) (P0)) ?mono4 ?hj4 (by kernel_rfl) ?start4 ?steps4 ?fin4;case mono4=>exact aX (ac (Is.mono9 _ _) (ac (Is.mono9 _ _) (ac (Is.mono9 _ _) (ac (Is.mono9 _ _) (ac (Is.mono9 _ _) (ac (Is.mono9 _ _) (ac (Is.mono9 _ _) (ac (Is.mono9 _ _) (ac (Is.mono9 _ _) (ac (OwE.mono (Nat.lt_succ_self _) _ _ _ _ _) (ac (OwE.mono (Nat.lt_succ_self _) _ _ _ _ _) (ac (Ow.mono (Nat.lt_succ_self _) _ _ _ _) (ac (Is.mono9 _ _) (ac (Ow.mono (Nat.lt_succ_self _) _ _ _ _) (ac (Is.mono9 _ _) (bU _))))))))))))))))
   case hj4=>exact Jo.congr dZc
   case start4=>exact ⟨fun _=>HP0.out,fun h=>by cases h⟩
   case fin4=>
    intro v9 L w9 hJ hall hF;have hQ:=hJ.p1 (hall 9 dZc);have f21:v9 0=.pointer (some ⟨g,0,none⟩):=hF 0 dZc dZc;have f22:v9 1=.pointer (some ⟨g,0,none⟩):=hF 1 dZc dZc;have f23:v9 2=.pointer (some ⟨g,0,none⟩):=hF 2 dZc dZc;have f24:v9 3=.pointer (some ⟨g,10,none⟩):=hF 3 dZc dZc;have f25:v9 4=.slice zsa zsn zsc:=hF 4 dZc dZc;have f26:v9 5=.pointer (some ⟨w1.heap.size,2,none⟩):=hF 5 dZc dZc;have f27:v9 6=.int .u64 d2:=hF 6 dZc dZc;have f28:v9 7=.pointer (some ⟨w1.heap.size,4,none⟩):=hF 7 dZc dZc;have f29:v9 8=.int .u64 d4:=hF 8 dZc dZc;have f32:v9 12=.int .i64 te:=hF 12 dZc dZc;have hf5:(Ow (g+1) 5 1 tn (TL.map (Value.int .u8))) (v9 13) w9:=hF 13 dZc dZc;have f6:v9 14=.int .i64 te:=hF 14 dZc dZc;clear hJ hall hF;simp only [aO,List.set_cons_succ,List.set_cons_zero,Nat.reduceAdd,f21,f22,f23,f24,f25,f26,f27,f28,f29,f32,f6];clear f6 f21 f22 f23 f24 f25 f26 f27 f28 f29 f32;obtain ⟨hst,hkq⟩:=HR1.out _ hQ;obtain ⟨⟨ba,bn,bc⟩,-,hbn,hbv⟩:=dP hf5;simp only at hbn hbv;subst hbn;unfold Ow at hf5;rw [hbv] at hf5⊢;have HKQ:=hZz hkq;have HST:=hZz hst;have HRW:=hZz hf5;have hgl2:=hst.lt;have hbn:bn≤65536:=by rw [←HTN.out];exact HTM.out.1
    have HGD:Hid (Calls Tryz.prog 50 #[.slice ba bn bc] w9 fun r w'=>pT w9.heap.size (dS TL).2 (dS TL).1 r w'∧Below w9.heap.size w9 w'):=hZz (by
     obtain ⟨e0,l0,c0⟩:=cT HRW.out;exact tj w9.heap.size ba bn bc TL w9 (Bys.own HTM.out.2 HRW.out) (lZr _) oZm l0 c0)
    have HLN:Hid ((dS TL).2.nd.length≤65537):=hZz (by have:=ub TL;have:=HTM.out.1;omega);clear hQ hkq hst hbv hf5;generalize dS TL=DD at HGD HZ2 HLN;obtain ⟨de,D⟩:=DD;simp only at HZ2 HLN HGD;go_wp2_with fail;refine HGD.out.mono ?_;rintro r w4 ⟨⟨na,nc,rfl,hno,hnb,hvl,hvb⟩,hb4⟩;obtain ⟨x0,x1,x2,x3,x4,x5,x6,hv⟩:=qu hvl;rw [hv] at hvb⊢;rw [show lR na D.nd.length nc [x0,x1,x2,x3,x4,x5,x6]=.agg #[.slice na D.nd.length nc,.int .u64 x0,.int .u64 x1,.int .u64 x2,.int .u64 x3,.int .u64 x4,.int .u64 x5,.int .u64 x6] from rfl];have HST4:=hZz (HST.out.later hb4);have HKQ4:=hZz (HKQ.out.trans (Kq.later (Nat.le_of_lt hgl2) hb4));have hgl4:g<w4.heap.size:=Nat.lt_of_lt_of_le hgl2 hb4.size;have HNO:=hZz (aR hno hgl2);clear hno hb4 HGD HRW;by_cases hde:de=0
    ·subst hde;have hz:=HZ2.out;rw [if_neg dZc,hv] at hz;have HZ3:Hid (Z=cS gR { m with N:=D.nd,so:=x0,st:=x1,sz:=x2,yt:=x3,yn:=x4,rt:=x5,rz:=x6 }):=hZz hz;have hbx4:=HST4.out.box;obtain ⟨p12,p13,p14,p15,p16,p17,p18,p19⟩:w4.cell? ⟨g,12,none⟩=some (.slice n0 n1 n2)∧w4.cell? ⟨g,13,none⟩=some (.int .u64 v0)∧w4.cell? ⟨g,14,none⟩=some (.int .u64 v1)∧w4.cell? ⟨g,15,none⟩=some (.int .u64 v2)∧w4.cell? ⟨g,16,none⟩=some (.int .u64 v3)∧w4.cell? ⟨g,17,none⟩=some (.int .u64 v4)∧w4.cell? ⟨g,18,none⟩=some (.int .u64 v5)∧w4.cell? ⟨g,19,none⟩=some (.int .u64 v6):=⟨hbx4.cell 12,hbx4.cell 13,hbx4.cell 14,hbx4.cell 15,hbx4.cell 16,hbx4.cell 17,hbx4.cell 18,hbx4.cell 19⟩
     obtain ⟨f12,f13,f14,f15,f16,f17,f18,f19⟩:w4.frozen? ⟨g,12,none⟩=false∧w4.frozen? ⟨g,13,none⟩=false∧w4.frozen? ⟨g,14,none⟩=false∧w4.frozen? ⟨g,15,none⟩=false∧w4.frozen? ⟨g,16,none⟩=false∧w4.frozen? ⟨g,17,none⟩=false∧w4.frozen? ⟨g,18,none⟩=false∧w4.frozen? ⟨g,19,none⟩=false:=⟨hbx4.frozen 12,hbx4.frozen 13,hbx4.frozen 14,hbx4.frozen 15,hbx4.frozen 16,hbx4.frozen 17,hbx4.frozen 18,hbx4.frozen 19⟩
     have hsf:=sR HST4.out (.cells #[.slice na D.nd.length nc,.int .u64 x0,.int .u64 x1,.int .u64 x2,.int .u64 x3,.int .u64 x4,.int .u64 x5,.int .u64 x6] 70) na D.nd.length nc D.nd x0 x1 x2 x3 x4 x5 x6 rfl HNO.out hnb HLN.out hvb;have HSF:=hZz hsf.1;have HKF:=hZz (HKQ4.out.trans hsf.2);have HIO:Hid (∀(W:World) (hh:Nat),W.heap.size=hh→Ps9 g W ⟨⟨k,e,s,c,⟨sga,sgn,sgc⟩,so,⟨nda,ndn,ndc⟩,⟨nma,nmn,nmc⟩,⟨sya,syn,syc⟩,⟨rla,rln,rlc⟩,⟨zsa,zsn,zsc⟩⟩,⟨fia,fin,fic⟩,⟨na,D.nd.length,nc⟩,x0,x1,x2,x3,x4,x5,x6,⟨tba,tbn,tbc⟩⟩ { m with N:=D.nd,so:=x0,st:=x1,sz:=x2,yt:=x3,yn:=x4,rt:=x5,rz:=x6 }→Kq g w W→Calls Tryz.prog 18 #[.slice (some ⟨hh,0,none⟩) 6 6] (W.alloc (.cells #[.func (.func 51) #[.pointer (some ⟨g,0,none⟩)] #[],.func (.func 52) #[.pointer (some ⟨g,0,none⟩)] #[],.func (.func 53) #[.pointer (some ⟨g,0,none⟩)] #[],.func (.func 54) #[.pointer (some ⟨g,0,none⟩)] #[],.func (.func 55) #[.pointer (some ⟨g,0,none⟩)] #[],.func (.func 56) #[.pointer (some ⟨g,0,none⟩)] #[]] 74)) fun r w'=>r=.returned (.int .i64 Z.1)∧(Z.1=0→∃p,Ps9 g w' p Z.2)∧Kq g w w'):=hZz (fun W hh h0 h1 h2=>by
      subst h0;rw [HZ3.out];exact um g w W _ _ h1 h2 HPRE.out)
     clear hz hbx4 hsf HZ2 HZ3 HST HKQ HST4 HKQ4 HNO hnb hvb hv;go_wp2_with fail;refine (HIO.out _ _ (by simp) HSF.out HKF.out).mono ?_;rintro r w5 ⟨rfl,h1,h2⟩;have H1:=hZz h1;have H2:=hZz h2;clear h1 h2;go_wp2;go_ret;exact ⟨rfl,H1.out,H2.out⟩
    ·have hz:=HZ2.out;rw [if_pos hde] at hz;subst hz;have hdeb:(de != 0)=true:=by rw [bne_iff_ne];exact hde
     have HKF:=hZz (fun o=>HKQ4.out.alloc (Nat.le_of_lt hgl4) o);clear HST HKQ HST4 HKQ4 HNO hnb hvb hv;go_wp2;go_ret;exact ⟨rfl,fun e=>absurd e hde,HKF.out _⟩
   case steps4=>
    refine ⟨?_,?_,?_,?_,?_,?_,?_,?_,?_,?_,?_,?_,?_,?_,?_,trivial⟩;all_goals intro L y w9 hJ hL hy0 hp0 hcl hun
    all_goals have hy:=hZz hy0
    all_goals have hp:=hZz hp0
    all_goals clear hy0 hp0 hun
    ·have e1:y 0=.pointer (some ⟨g,0,none⟩):=hy.out 0 dZc;have hJ3:=hZz (hJ.pure (show (9:Nat)≠0 by decide));intro K Q hK;clear hcl hJ;obtain ⟨A,hA,v1⟩:=evA1 (n:=59) e1 dZc;rw [hA] at hK⊢;clear hA hy hp;go_simp;exact hK _ _ ⟨Kq.refl _ _,fun _=>rfl,hJ3.out⟩
    ·have e1:y 21=.pointer (some ⟨g,0,none⟩):=(hp.out 0 dZc).2 dZc;have hJ3:=hZz (hJ.pure (show (9:Nat)≠1 by decide));intro K Q hK;clear hcl hJ;obtain ⟨A,hA,v1⟩:=evA1 (n:=59) e1 dZc;rw [hA] at hK⊢;clear hA hy hp;go_simp;exact hK _ _ ⟨Kq.refl _ _,fun _=>rfl,hJ3.out⟩
    ·have e1:y 22=.pointer (some ⟨g,0,none⟩):=(hp.out 1 dZc).2 dZc;have hJ3:=hZz (hJ.pure (show (9:Nat)≠2 by decide));intro K Q hK;clear hcl hJ;obtain ⟨A,hA,v1⟩:=evA1 (n:=59) e1 dZc;rw [hA] at hK⊢;clear hA hy hp;go_simp;exact hK _ _ ⟨Kq.refl _ _,fun _=>rfl,hJ3.out⟩
    ·have e1:y 23=.pointer (some ⟨g,0,none⟩):=(hp.out 2 dZc).2 dZc;have hJ3:=hZz (hJ.pure (show (9:Nat)≠3 by decide));intro K Q hK;clear hcl hJ;obtain ⟨A,hA,v1⟩:=evA1 (n:=59) e1 dZc;rw [hA] at hK⊢;clear hA hy hp;go_simp;exact hK _ _ ⟨Kq.refl _ _,fun _=>rfl,hJ3.out⟩
    ·have e1:y 24=.pointer (some ⟨g,10,none⟩):=(hp.out 3 dZc).2 dZc;have hLj:L 9=false:=by
      cases h:L 9 with
      | false=>rfl
      | true=>have:=(hcl 9 _ rfl h 4 dZc);rw [hL] at this;cases this
     have hP:=hZz (hJ.p0 hLj);have q10:w9.cell? ⟨g,10,none⟩=some (.slice zsa zsn zsc):=(HPB.out _ hP.out).1.cell 10;have hJ3:=hZz (hJ.pure (show (9:Nat)≠4 by decide));intro K Q hK;clear hcl hJ;obtain ⟨A,hA,v1⟩:=evA1 (n:=59) e1 dZc;rw [hA] at hK⊢;clear hA hy hp;go_simp;exact hK _ _ ⟨Kq.refl _ _,fun _=>rfl,hJ3.out⟩
    ·have e1:y 3=.pointer (some ⟨w1.heap.size,0,none⟩):=hy.out 3 dZc;have hJ3:=hZz (hJ.pure (show (9:Nat)≠5 by decide));intro K Q hK;clear hcl hJ;obtain ⟨A,hA,v1⟩:=evA1 (n:=59) e1 dZc;rw [hA] at hK⊢;clear hA hy hp;go_simp;exact hK _ _ ⟨Kq.refl _ _,fun _=>rfl,hJ3.out⟩
    ·have e1:y 26=.pointer (some ⟨w1.heap.size,2,none⟩):=(hp.out 5 dZc).2 dZc;have hLj:L 9=false:=by
      cases h:L 9 with
      | false=>rfl
      | true=>have:=(hcl 9 _ rfl h 6 dZc);rw [hL] at this;cases this
     have hP:=hZz (hJ.p0 hLj);have q2:w9.cell? ⟨w1.heap.size,2,none⟩=some (.int .u64 d2):=(HPB.out _ hP.out).2.cell 2;have hJ3:=hZz (hJ.pure (show (9:Nat)≠6 by decide));intro K Q hK;clear hcl hJ;obtain ⟨A,hA,v1⟩:=evA1 (n:=59) e1 dZc;rw [hA] at hK⊢;clear hA hy hp;go_simp;exact hK _ _ ⟨Kq.refl _ _,fun _=>rfl,hJ3.out⟩
    ·have e1:y 3=.pointer (some ⟨w1.heap.size,0,none⟩):=hy.out 3 dZc;have hJ3:=hZz (hJ.pure (show (9:Nat)≠7 by decide));intro K Q hK;clear hcl hJ;obtain ⟨A,hA,v1⟩:=evA1 (n:=59) e1 dZc;rw [hA] at hK⊢;clear hA hy hp;go_simp;exact hK _ _ ⟨Kq.refl _ _,fun _=>rfl,hJ3.out⟩
    ·have e1:y 28=.pointer (some ⟨w1.heap.size,4,none⟩):=(hp.out 7 dZc).2 dZc;have hLj:L 9=false:=by
      cases h:L 9 with
      | false=>rfl
      | true=>have:=(hcl 9 _ rfl h 8 dZc);rw [hL] at this;cases this
     have hP:=hZz (hJ.p0 hLj);have q4:w9.cell? ⟨w1.heap.size,4,none⟩=some (.int .u64 d4):=(HPB.out _ hP.out).2.cell 4;have hJ3:=hZz (hJ.pure (show (9:Nat)≠8 by decide));intro K Q hK;clear hcl hJ;obtain ⟨A,hA,v1⟩:=evA1 (n:=59) e1 dZc;rw [hA] at hK⊢;clear hA hy hp;go_simp;exact hK _ _ ⟨Kq.refl _ _,fun _=>rfl,hJ3.out⟩
    ·have e1:y 25=.slice zsa zsn zsc:=(hp.out 4 dZc).2 dZc;have e2:y 27=.int .u64 d2:=(hp.out 6 dZc).2 dZc;have e3:y 29=.int .u64 d4:=(hp.out 8 dZc).2 dZc;have hP:=hZz (hJ.p0 hL);intro K Q hK;clear hcl hJ;obtain ⟨A,hA,v1,v2,v3⟩:=evA3 (n:=59) e1 e2 e3 dZc dZc dZc;rw [hA] at hK⊢;clear hA hy hp;go_simp;go_at_call 49
     refine (HPC.out _ hP.out).mono ?_;rintro r w7 ⟨⟨u,rfl,ho⟩,hp7,hk7⟩;exact hK _ _ ⟨hk7,fun _=>⟨u,rfl,ho⟩,Jo.second hp7⟩
    ·have e1:(OwE (g+1) 5 1 tn (TL.map (Value.int .u8)) te) (y 30) w9:=(hp.out 9 dZc).2 dZc;obtain ⟨u1,hv1,ho1⟩:=e1;have hJ3:=hZz (hJ.pure (show (9:Nat)≠10 by decide));intro K Q hK;clear hcl hJ;obtain ⟨A,hA,v1⟩:=evA1 (n:=59) hv1 dZc;rw [hA] at hK⊢;clear hA hy hp;go_simp;exact hK _ _ ⟨Kq.refl _ _,fun _=>⟨_,rfl,ho1⟩,hJ3.out⟩
    ·have e1:(OwE (g+1) 5 1 tn (TL.map (Value.int .u8)) te) (y 20) w9:=(hp.out 10 dZc).2 dZc;obtain ⟨u1,hv1,ho1⟩:=e1;have hJ3:=hZz (hJ.pure (show (9:Nat)≠11 by decide));intro K Q hK;clear hcl hJ;obtain ⟨A,hA,v1⟩:=evA1 (n:=59) hv1 dZc;rw [hA] at hK⊢;clear hA hy hp;go_simp;exact hK _ _ ⟨Kq.refl _ _,fun _=>ho1,hJ3.out⟩
    ·have e1:(OwE (g+1) 5 1 tn (TL.map (Value.int .u8)) te) (y 20) w9:=(hp.out 10 dZc).2 dZc;obtain ⟨u1,hv1,ho1⟩:=e1;have hJ3:=hZz (hJ.pure (show (9:Nat)≠12 by decide));intro K Q hK;clear hcl hJ;obtain ⟨A,hA,v1⟩:=evA1 (n:=59) hv1 dZc;rw [hA] at hK⊢;clear hA hy hp;go_simp;exact hK _ _ ⟨Kq.refl _ _,fun _=>rfl,hJ3.out⟩
    ·have e1:(Ow (g+1) 5 1 tn (TL.map (Value.int .u8))) (y 31) w9:=(hp.out 11 dZc).2 dZc;have hv1:y 31=y 31:=rfl;have hJ3:=hZz (hJ.pure (show (9:Nat)≠13 by decide));intro K Q hK;clear hcl hJ;obtain ⟨A,hA,v1⟩:=evA1 (n:=59) hv1 dZc;rw [hA] at hK⊢;clear hA hy hp;go_simp;exact hK _ _ ⟨Kq.refl _ _,fun _=>e1,hJ3.out⟩
    ·have e1:y 32=.int .i64 te:=(hp.out 12 dZc).2 dZc;have hJ3:=hZz (hJ.pure (show (9:Nat)≠14 by decide));intro K Q hK;clear hcl hJ;obtain ⟨A,hA,v1⟩:=evA1 (n:=59) e1 dZc;rw [hA] at hK⊢;clear hA hy hp;go_simp;exact hK _ _ ⟨Kq.refl _ _,fun _=>rfl,hJ3.out⟩
def inC (of:Int) (s:Sg):Bool:=decide (s.ty=1∧8≤s.me∧s.va≤of∧of-s.va≤s.me-8)
theorem mQ (g:Nat) (p:Pz) (m:Pm) (of:Int) (w:World) (h:Ps9 g w p m) (o0:0≤of) (o1:of≤18446744073709551615) :
 Calls Tryz.prog 57 #[.pointer (some ⟨g,0,none⟩),.int .u64 of] w fun r w'=>r=.returned (.bool (m.m.sg.any (inC of)))∧Below w.heap.size w w':=by
 obtain ⟨R,hR⟩:∃R,m.m.sg.any (inC of)=R:=⟨_,rfl⟩
 have hgl:=h.lt;have hs:=h.seg;have q4:w.cell? ⟨g,4,none⟩=some (.slice p.x.sg.a p.x.sg.n p.x.sg.c):=h.box.cell 4;rw [hR];have HY:Hid (∀j,j<p.x.sg.n→inC of (m.m.sg.getD j sg0)=true→R=true):=hZz (fun j hj hc=>by rw [←hR];exact List.any_eq_true.2 ⟨_,by rw [gZe,gZg (by rw [hs.1.hl];exact hj)];exact List.getElem_mem (by rw [hs.1.hl];exact hj),hc⟩);have HN:Hid ((∀j,j<p.x.sg.n→inC of (m.m.sg.getD j sg0)=false)→R=false):=hZz (fun hc=>by
  rw [←hR,List.any_eq_false];intro x hx;obtain ⟨i,hi,rfl⟩:=List.getElem_of_mem hx;have:=hc i (by rw [←hs.1.hl];exact hi);rw [gZe,gZg hi] at this;rw [show inC of m.m.sg[i]=false from this];decide)
 have HSG:=hZz hs.1;have hle:=hs.2.1;have hmx:=hs.2.2;generalize m.m.sg=L at HY HN HSG;obtain ⟨⟨k,e,s,c,⟨sga,sgn,sgc⟩,so,⟨nda,ndn,ndc⟩,⟨nma,nmn,nmc⟩,⟨sya,syn,syc⟩,⟨rla,rln,rlc⟩,⟨zsa,zsn,zsc⟩⟩,⟨fia,fin,fic⟩,⟨n0,n1,n2⟩,v0,v1,v2,v3,v4,v5,v6,⟨tba,tbn,tbc⟩⟩:=p;simp only at HY HN HSG hle hmx q4;have hni:(sgn:Int)≤9223372036854775807:=by omega
 clear h hs hR;go_enter Tryz.func57,Tryz.ntmps57
 go_wp2;go_loopw [6,13] (fun _ i wr=>∃q:Nat,q≤sgn∧i=.int .i64 q∧(∀j,j<q→inC of (L.getD j sg0)=false)∧Below w.heap.size w wr) (fun _ i _=>sgn-(intOf i).toNat)
 case atStart=>exact ⟨0,Nat.zero_le _,rfl,fun j hj=>absurd hj oZm,Below.refl _ _⟩
 case round=>
  obtain ⟨q,hq,rfl,hno,hbel⟩:=hrel;have HB:=hZz hbel;have HNO:=hZz hno;have hww:=hbel.size;by_cases hlt:q<sgn
  ·obtain ⟨sb,so2,rfl,hsB,hsc⟩:=HSG.out.hc oZm;obtain ⟨s0,s1,s2,s3,s4,s5,s6⟩:=(hsc q hlt).below hbel hsB;have hsok:=HSG.out.okAt hlt;have HYQ:=hZz (HY.out q hlt);have HNX:=hZz (fun h'=>mR (P:=fun j=>inC of (L.getD j sg0)=false) hno h');have hqi:(q:Int)<sgn:=by omega
   generalize L.getD q sg0=sq at s0 s1 s2 s3 s4 s5 s6 hsok HYQ HNX;obtain ⟨⟨g0,g1⟩,-,-,⟨w0,w1⟩,-,⟨m0,m1⟩,-⟩:=hsok;obtain ⟨ty,fl,ot,va,fi,me,al⟩:=sq;simp only at s0 s1 s2 s3 s4 s5 s6 g0 g1 w0 w1 m0 m1;have HBN:Hid (∀o,Below w.heap.size w (wr.alloc o)):=hZz (fun o=>HB.out.alloc hww o);have hsb:sb<wr.heap.size:=by omega
   clear hsc hbel hno;by_cases c1:ty=1
   ·subst c1;by_cases c2:8≤me
    ·have d2:decide (8≤me)=true:=decide_eq_true c2;by_cases c3:va≤of
     ·have d3:decide (va≤of)=true:=decide_eq_true c3;have x1:IntKind.u64.wrap (of-va)=of-va:=by rw [IntKind.wrap_u64];omega
      have x2:IntKind.u64.wrap (me-8)=me-8:=by rw [IntKind.wrap_u64];omega
      obtain ⟨di,hdi⟩:∃di,of-va=di:=⟨_,rfl⟩
      obtain ⟨mi,hmi⟩:∃mi,me-8=mi:=⟨_,rfl⟩
      rw [hdi] at x1;rw [hmi] at x2;by_cases c4:di≤mi
      ·have d4:decide (di≤mi)=true:=decide_eq_true c4;have HT:=hZz (HYQ.out (by unfold inC;rw [decide_eq_true_eq];simp only;exact ⟨trivial,c2,c3,by omega⟩));clear c2 c3 c4 HYQ HNX;go_wp2;go_ret;exact ⟨by rw [HT.out];rfl,HBN.out _⟩
      ·have d4:decide (di≤mi)=false:=decide_eq_false c4;have HT:=hZz (HNX.out (by unfold inC;rw [decide_eq_false_iff_not];simp only;exact fun h=>c4 oZm));clear c2 c3 c4 HYQ HNX;go_wp2;go_roundw
       case rel=>exact ⟨q+1,by omega,by go_num,HT.out,HBN.out _⟩
       case measure=>(simp [intOf]<;>omega)
     ·have d3:decide (va≤of)=false:=decide_eq_false c3;have HT:=hZz (HNX.out (by unfold inC;rw [decide_eq_false_iff_not];simp only;exact fun h=>c3 h.2.2.1));clear c2 c3 HYQ HNX;go_wp2;go_roundw
      case rel=>exact ⟨q+1,by omega,by go_num,HT.out,HBN.out _⟩
      case measure=>(simp [intOf]<;>omega)
    ·have d2:decide (8≤me)=false:=decide_eq_false c2;have HT:=hZz (HNX.out (by unfold inC;rw [decide_eq_false_iff_not];simp only;exact fun h=>c2 h.2.1));clear c2 HYQ HNX;go_wp2;go_roundw
     case rel=>exact ⟨q+1,by omega,by go_num,HT.out,HBN.out _⟩
     case measure=>(simp [intOf]<;>omega)
   ·have d1:(ty==1)=false:=by simpa using c1
    have HT:=hZz (HNX.out (by unfold inC;rw [decide_eq_false_iff_not];simp only;exact fun h=>c1 h.1));clear c1 HYQ HNX;go_wp2;go_roundw
    case rel=>exact ⟨q+1,by omega,by go_num,HT.out,HBN.out _⟩
    case measure=>(simp [intOf]<;>omega)
  ·obtain rfl:q=sgn:=by omega
   have HT:=hZz (HN.out hno);clear hno hbel;go_wp2;go_ret;exact ⟨by rw [HT.out];rfl,HB.out⟩
def okC (L:List Sg) (r:Rl):Bool:=decide (r.ty=0) || L.any (inC r.of)
def crI (m:Pm):Int×Pm:=(if m.m.rl.any (fun r=>!okC m.m.sg r) then 40 else 0,m)
theorem vQ (g:Nat):fp g 23 crI:=by
 intro p m w h;have H:=hZz h;have hgl:=h.lt;have hr:=h.rel;have HRL:=hZz hr.1;have hle:=hr.2.1;have hmx:=hr.2.2;have q9:w.cell? ⟨g,9,none⟩=some (.slice p.x.rl.a p.x.rl.n p.x.rl.c):=h.box.cell 9;obtain ⟨Z,hZ⟩:∃Z,crI m=Z:=⟨_,rfl⟩
 have HY:Hid (∀j,j<p.x.rl.n→okC m.m.sg (m.m.rl.getD j Rl.zero)=false→Z=(40,m)):=hZz (fun j hj hc=>by
  rw [←hZ];unfold crI;rw [if_pos];exact List.any_eq_true.2 ⟨_,Rl.getD_mem (by rw [hr.1.hl];exact hj),by rw [hc];rfl⟩)
 have HN:Hid ((∀j,j<p.x.rl.n→okC m.m.sg (m.m.rl.getD j Rl.zero)=true)→Z=(0,m)):=hZz (fun hc=>by
  rw [←hZ];unfold crI;rw [if_neg];rw [Bool.not_eq_true,List.any_eq_false];intro x hx;obtain ⟨i,hi,rfl⟩:=List.getElem_of_mem hx;have:=hc i (by rw [←hr.1.hl];exact hi);rw [gZe,gZg hi] at this;rw [show okC m.m.sg m.m.rl[i]=true from this];decide)
 rw [hZ];have HIM:Hid (∀of w1,0≤of→of≤18446744073709551615→Below w.heap.size w w1→Calls Tryz.prog 57 #[.pointer (some ⟨g,0,none⟩),.int .u64 of] w1 fun r w'=>r=.returned (.bool (m.m.sg.any (inC of)))∧Below w1.heap.size w1 w'):=hZz (fun of w1 a b h1=>mQ g p m of w1 (H.out.later h1) a b);obtain ⟨p,hp⟩:∃q:Pz,q=p:=⟨_,rfl⟩
 obtain ⟨⟨k,e,s,c,⟨sga,sgn,sgc⟩,so,⟨nda,ndn,ndc⟩,⟨nma,nmn,nmc⟩,⟨sya,syn,syc⟩,⟨rla,rln,rlc⟩,⟨zsa,zsn,zsc⟩⟩,⟨fia,fin,fic⟩,⟨n0,n1,n2⟩,v0,v1,v2,v3,v4,v5,v6,⟨tba,tbn,tbc⟩⟩:=p;subst hp;simp only at HY HN HRL hle hmx q9;have hni:(rln:Int)≤9223372036854775807:=by omega
 clear h hr hZ;go_enter Tryz.func23,Tryz.ntmps23
 go_wp2;go_loopw [4,11] (fun _ i wr=>∃q:Nat,q≤rln∧i=.int .i64 q∧(∀j,j<q→okC m.m.sg (m.m.rl.getD j Rl.zero)=true)∧Below w.heap.size w wr) (fun _ i _=>rln-(intOf i).toNat)
 case atStart=>exact ⟨0,Nat.zero_le _,rfl,fun j hj=>absurd hj oZm,Below.refl _ _⟩
 case round=>
  obtain ⟨q,hq,rfl,hno,hbel⟩:=hrel;have HB:=hZz hbel;have hww:=hbel.size;by_cases hlt:q<rln
  ·obtain ⟨sb,so2,rfl,hsB,hsc⟩:=HRL.out.hc oZm;obtain ⟨s0,s1,s2,s3⟩:=(hsc q hlt).below hbel hsB;have hsok:=HRL.out.okAt hlt;have HYQ:=hZz (HY.out q hlt);have HNX:=hZz (fun h'=>mR (P:=fun j=>okC m.m.sg (m.m.rl.getD j Rl.zero)=true) hno h');have hqi:(q:Int)<rln:=by omega
   generalize m.m.rl.getD q Rl.zero=sq at s0 s1 s2 s3 hsok HYQ HNX;obtain ⟨⟨g0,g1⟩,⟨t0,t1⟩,-,-⟩:=hsok;obtain ⟨rof,rty,rsy,rad⟩:=sq;simp only at s0 s1 s2 s3 g0 g1 t0 t1;have HBN:Hid (∀o,Below w.heap.size w (wr.alloc o)):=hZz (fun o=>HB.out.alloc hww o);have hsb:sb<wr.heap.size:=by omega
   have HC:=hZz (fun o=>HIM.out rof (wr.alloc o) g0 g1 (HBN.out o));unfold okC at HYQ HNX;simp only at HYQ HNX;generalize m.m.sg.any (inC rof)=b at HC HYQ HNX;clear hsc hbel hno;by_cases c1:rty=0
   ·subst c1;have HT:=hZz (HNX.out rfl);clear HYQ HNX HC;go_wp2;go_roundw
    case rel=>exact ⟨q+1,by omega,by go_num,HT.out,HBN.out _⟩
    case measure=>(simp [intOf]<;>omega)
   ·have d1:(rty != 0)=true:=by rw [bne_iff_ne];exact c1
    have d0:decide (rty=0)=false:=decide_eq_false c1;rw [d0,Bool.false_or] at HYQ HNX;clear c1;go_wp2_with fail;refine (HC.out _).mono ?_;rintro r w4 ⟨rfl,hb4⟩;have HB4:=hZz ((HBN.out _).trans (hb4.mono (HBN.out (.cells #[.int .u64 rof,.int .u32 rty,.int .u32 rsy,.int .i64 rad] 78)).size));clear hb4;cases b with
    | true=>
      have HT:=hZz (HNX.out rfl);clear HYQ HNX HC;go_wp2;go_roundw
      case rel=>exact ⟨q+1,by omega,by go_num,HT.out,HB4.out⟩
      case measure=>(simp [intOf]<;>omega)
    | false=>
      have hz:=HYQ.out rfl;subst hz;clear HYQ HNX HC;go_wp2;go_ret;exact ⟨rfl,fun e=>(by cases e),Kq.later (Nat.le_of_lt hgl) HB4.out⟩
  ·obtain rfl:q=rln:=by omega
   have hz:=HN.out hno;subst hz;clear hno hbel;go_wp2;go_ret;exact ⟨rfl,fun _=>⟨_,H.out.later HB.out⟩,Kq.later (Nat.le_of_lt hgl) HB.out⟩
def csI (m:Pm):Int×Pm:=(il (m.m.sg.find? (bC 7)) m.m.sy,m)
theorem wj (t:Option Sg):∃d0 d1 d2 d3 d4 d5 d6 th,dE t=.agg #[.int .u32 d0,.int .u32 d1,.int .u64 d2,.int .u64 d3,.int .u64 d4,.int .u64 d5,.int .u64 d6]∧t.isSome=th∧
 ∀s,ik t s=if s.se=0 then 0 else if s.inf % 16=6 then (if th=false then 11 else if d5<s.va then 11 else 0) else if 4294967296<s.va then 13 else 0:=by
 cases t with
 | none=>exact ⟨0,0,0,0,0,0,0,false,rfl,rfl,fun s=>by unfold ik;simp⟩
 | some d=>exact ⟨d.ty,d.fl,d.ot,d.va,d.fi,d.me,d.al,true,rfl,rfl,fun s=>by unfold ik;simp⟩
theorem wM (g:Nat):fp g 24 csI:=by
 intro p m w h;have H:=hZz h;have hgl:=h.lt;have hr:=h.sym;have HSL:=hZz hr.1;have hle:=hr.2.1;have hmx:=hr.2.2;have q4:w.cell? ⟨g,4,none⟩=some (.slice p.x.sg.a p.x.sg.n p.x.sg.c):=h.box.cell 4;have HQ8:Hid (∀w1,Below w.heap.size w w1→w1.cell? ⟨g,8,none⟩=some (.slice p.x.sy.a p.x.sy.n p.x.sy.c)):=hZz (fun w1 h1=>(h.box.later h1).cell 8);obtain ⟨Z,hZ⟩:∃Z,csI m=Z:=⟨_,rfl⟩
 have HY:Hid (∀j,(∀i,i<j→ik (m.m.sg.find? (bC 7)) (m.m.sy.getD i Sy.zero)=0)→j<p.x.sy.n→∀e,ik (m.m.sg.find? (bC 7)) (m.m.sy.getD j Sy.zero)=e→e≠0→Z=(e,m)):=hZz (fun j h0 hj e he hne=>by
  rw [←hZ];unfold csI;subst he;rw [ox h0 (by rw [hr.1.hl];exact hj) hne])
 have HN:Hid ((∀j,j<p.x.sy.n→ik (m.m.sg.find? (bC 7)) (m.m.sy.getD j Sy.zero)=0)→Z=(0,m)):=hZz (fun hc=>by
  rw [←hZ];unfold csI;rw [nN (by rw [hr.1.hl];exact hc)])
 rw [hZ];obtain ⟨d0,d1,d2,d3,d4,d5,d6,th,hf,ht,hse⟩:=wj (m.m.sg.find? (bC 7));have HFD:Hid (Calls Tryz.prog 48 #[.slice p.x.sg.a p.x.sg.n p.x.sg.c,.int .u32 7] w fun r w2=>r=.returned (.tuple #[.agg #[.int .u32 d0,.int .u32 d1,.int .u64 d2,.int .u64 d3,.int .u64 d4,.int .u64 d5,.int .u64 d6],.bool th])∧Below w.heap.size w w2):=hZz (by
  rw [←hf,←ht];have h4:=h.seg;exact ie w.heap.size _ _ _ m.m.sg 7 w h4.1 (lZr _) (by have h5:=h4.2.1;have h6:=h4.2.2;omega))
 generalize ik (m.m.sg.find? (bC 7))=E at HY HN hse;have HSE:=hZz hse;obtain ⟨p,hp⟩:∃q:Pz,q=p:=⟨_,rfl⟩
 obtain ⟨⟨k,e,s,c,⟨sga,sgn,sgc⟩,so,⟨nda,ndn,ndc⟩,⟨nma,nmn,nmc⟩,⟨sya,syn,syc⟩,⟨rla,rln,rlc⟩,⟨zsa,zsn,zsc⟩⟩,⟨fia,fin,fic⟩,⟨n0,n1,n2⟩,v0,v1,v2,v3,v4,v5,v6,⟨tba,tbn,tbc⟩⟩:=p;subst hp;simp only at HY HN HSL hle hmx q4 HQ8 HFD;have hni:(syn:Int)≤9223372036854775807:=by omega
 clear h hr hZ hse hf ht;obtain ⟨D,hD⟩:∃D:Array Value,D=#[.int .u32 d0,.int .u32 d1,.int .u64 d2,.int .u64 d3,.int .u64 d4,.int .u64 d5,.int .u64 d6]:=⟨_,rfl⟩
 have HDC:Hid (∀w1 b,Blk w1 b D 65→w1.cell? ⟨b,5,none⟩=some (.int .u64 d5)):=hZz (fun w1 b hb=>by rw [hb.cell 5,hD];rfl);go_enter Tryz.func24,Tryz.ntmps24
 go_wp2_with fail;refine HFD.out.mono ?_;rintro r w1 ⟨rfl,hb1⟩;have HB1:Hid (Below w.heap.size w (w1.alloc (.cells #[.int .u32 d0,.int .u32 d1,.int .u64 d2,.int .u64 d3,.int .u64 d4,.int .u64 d5,.int .u64 d6] 65))):=hZz (hb1.alloc hb1.size _);have HD1:Hid (Blk (w1.alloc (.cells #[.int .u32 d0,.int .u32 d1,.int .u64 d2,.int .u64 d3,.int .u64 d4,.int .u64 d5,.int .u64 d6] 65)) w1.heap.size D 65):=hZz (by rw [hD];exact Blk.new _ _ _);have q8:=HQ8.out w1 hb1;have hgl1:g<w1.heap.size:=Nat.lt_of_lt_of_le hgl hb1.size;have hw1:=hb1.size;clear hb1 HFD hD;go_wp2;go_loopw [6,7,23] (fun _ _ i wr=>∃q:Nat,q≤syn∧i=.int .i64 q∧(∀j,j<q→E (m.m.sy.getD j Sy.zero)=0)∧Blk wr w1.heap.size D 65∧Below w.heap.size w wr) (fun _ _ i _=>syn-(intOf i).toNat)
 case atStart=>exact ⟨0,Nat.zero_le _,rfl,fun j hj=>absurd hj oZm,HD1.out,HB1.out⟩
 case round=>
  obtain ⟨q,hq,rfl,hno,hblk,hbel⟩:=hrel;have HB:=hZz hbel;have HK:=hZz hblk;have hww:=hbel.size;have htl:=hblk.lt;by_cases hlt:q<syn
  ·obtain ⟨sb,so2,rfl,hsB,hsc⟩:=HSL.out.hc oZm;obtain ⟨s0,s1,s2,s3,s4,s5⟩:=(hsc q hlt).below hbel hsB;have hsok:=HSL.out.okAt hlt;have HYQ:=hZz (HY.out q hno hlt);have HNX:=hZz (fun h'=>mR (P:=fun j=>E (m.m.sy.getD j Sy.zero)=0) hno h');have HSQ:=hZz (HSE.out (m.m.sy.getD q Sy.zero));have hqi:(q:Int)<syn:=by omega
   generalize m.m.sy.getD q Sy.zero=sq at s0 s1 s2 s3 s4 s5 hsok HYQ HNX HSQ;have hb0:=hsok.inf;obtain ⟨yna,yif,yot,yse,yva,ysi⟩:=sq;simp only at s0 s1 s2 s3 s4 s5 HSQ hb0;obtain ⟨b0,b1⟩:=hb0;generalize E ⟨yna,yif,yot,yse,yva,ysi⟩=er at HYQ HNX HSQ;obtain ⟨Yo,hYo⟩:∃Yo:Obj,Yo=.cells #[.int .u32 yna,.int .u8 yif,.int .u8 yot,.int .u16 yse,.int .u64 yva,.int .u64 ysi] 76:=⟨_,rfl⟩
   have HBN:Hid (Below w.heap.size w (wr.alloc Yo)∧Below w.heap.size w ((wr.alloc Yo).alloc Yo)∧Below w.heap.size w (((wr.alloc Yo).alloc Yo).alloc Yo)):=hZz ⟨HB.out.alloc hww Yo,(HB.out.alloc hww Yo).alloc (by simp;omega) Yo,((HB.out.alloc hww Yo).alloc (by simp;omega) Yo).alloc (by simp;omega) Yo⟩;have HKN:Hid (Blk ((wr.alloc Yo).alloc Yo) w1.heap.size D 65∧Blk (((wr.alloc Yo).alloc Yo).alloc Yo) w1.heap.size D 65):=hZz ⟨(hblk.alloc Yo).alloc Yo,((hblk.alloc Yo).alloc Yo).alloc Yo⟩;rw [hYo] at HBN HKN;have hsb:sb<wr.heap.size:=by omega
   have HDF:=hZz (fun w1=>kX yna yif yot yse yva ysi w1);have HKI:=hZz (fun w1=>qk yna yif yot yse yva ysi w1 b0 b1);clear hsc hbel hno hblk hYo;by_cases c1:yse=0
   ·subst c1;have hT:=HSQ.out;rw [if_pos rfl] at hT;have HT:=hZz (HNX.out hT);clear HYQ HNX HSQ hT HKI;go_wp2_with fail;refine (HDF.out _).mono ?_;rintro r w4 ⟨rfl,rfl⟩;go_wp2;go_roundw
    case rel=>exact ⟨q+1,by omega,by go_num,HT.out,HKN.out.1,HBN.out.2.1⟩
    case measure=>(simp [intOf]<;>omega)
   ·have c1b:(yse != 0)=true:=by rw [bne_iff_ne];exact c1
    have hT:=HSQ.out;rw [if_neg c1] at hT;have HT1:=hZz hT;rw [c1b] at HDF;clear HSQ hT c1 c1b;by_cases c2:yif % 16=6
    ·have hT:=HT1.out;rw [if_pos c2] at hT;have HT2:=hZz hT;have c2b:(yif % 16==6)=true:=by rw [c2];rfl
     clear HT1 hT c2;cases th with
     | false=>
       have hT:=HT2.out;rw [if_pos rfl] at hT;have hz:=HYQ.out _ hT dZc;subst hz;clear HT2 HNX HYQ hT;go_wp2_with fail;refine (HDF.out _).mono ?_;rintro r w4 ⟨rfl,rfl⟩;go_wp2_with fail;refine (HKI.out _).mono ?_;rintro r w4 ⟨rfl,rfl⟩;go_wp2;go_ret;exact ⟨rfl,fun e=>(by cases e),Kq.later (Nat.le_of_lt hgl) HBN.out.2.2⟩
     | true=>
       have hT:=HT2.out;rw [if_neg (by decide)] at hT;have HT3:=hZz hT;have t5:=HDC.out _ _ HKN.out.2;clear HT2 hT;by_cases c3:d5<yva
       ·have hT:=HT3.out;rw [if_pos c3] at hT;have hz:=HYQ.out _ hT dZc;subst hz;have c3b:decide (yva > d5)=true:=decide_eq_true c3;have c3c:decide (d5<yva)=true:=decide_eq_true c3;clear HT3 HNX HYQ hT c3;go_wp2_with fail;refine (HDF.out _).mono ?_;rintro r w4 ⟨rfl,rfl⟩;go_wp2_with fail;refine (HKI.out _).mono ?_;rintro r w4 ⟨rfl,rfl⟩;go_wp2;go_ret;exact ⟨rfl,fun e=>(by cases e),Kq.later (Nat.le_of_lt hgl) HBN.out.2.2⟩
       ·have hT:=HT3.out;rw [if_neg c3] at hT;have HT:=hZz (HNX.out hT);have c3c:decide (d5<yva)=false:=decide_eq_false c3;clear HT3 HNX HYQ hT c3;go_wp2_with fail;refine (HDF.out _).mono ?_;rintro r w4 ⟨rfl,rfl⟩;go_wp2_with fail;refine (HKI.out _).mono ?_;rintro r w4 ⟨rfl,rfl⟩;go_wp2;go_roundw
        case rel=>exact ⟨q+1,by omega,by go_num,HT.out,HKN.out.2,HBN.out.2.2⟩
        case measure=>(simp [intOf]<;>omega)
    ·have hT:=HT1.out;rw [if_neg c2] at hT;have HT2:=hZz hT;have c2b:(yif % 16==6)=false:=by simpa using c2
     clear HT1 hT c2;by_cases c3:4294967296<yva
     ·have hT:=HT2.out;rw [if_pos c3] at hT;have hz:=HYQ.out _ hT dZc;subst hz;have c3c:decide (4294967296<yva)=true:=decide_eq_true c3;clear HT2 HNX HYQ hT c3;go_wp2_with fail;refine (HDF.out _).mono ?_;rintro r w4 ⟨rfl,rfl⟩;go_wp2_with fail;refine (HKI.out _).mono ?_;rintro r w4 ⟨rfl,rfl⟩;go_wp2;go_ret;exact ⟨rfl,fun e=>(by cases e),Kq.later (Nat.le_of_lt hgl) HBN.out.2.2⟩
     ·have hT:=HT2.out;rw [if_neg c3] at hT;have HT:=hZz (HNX.out hT);have c3c:decide (4294967296<yva)=false:=decide_eq_false c3;clear HT2 HNX HYQ hT c3;go_wp2_with fail;refine (HDF.out _).mono ?_;rintro r w4 ⟨rfl,rfl⟩;go_wp2_with fail;refine (HKI.out _).mono ?_;rintro r w4 ⟨rfl,rfl⟩;go_wp2;go_roundw
      case rel=>exact ⟨q+1,by omega,by go_num,HT.out,HKN.out.2,HBN.out.2.2⟩
      case measure=>(simp [intOf]<;>omega)
  ·obtain rfl:q=syn:=by omega
   have hz:=HN.out hno;subst hz;clear hno hbel hblk;go_wp2;go_ret;exact ⟨rfl,fun _=>⟨_,H.out.later HB.out⟩,Kq.later (Nat.le_of_lt hgl) HB.out⟩
end Go.Proofs.YtclgbdfkdbbinaaGreat
