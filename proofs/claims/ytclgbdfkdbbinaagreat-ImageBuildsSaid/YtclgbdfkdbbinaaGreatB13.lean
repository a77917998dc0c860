/-
  What is proved here: words and contracts, a part of those that the statement rests on (B13).
  Conditions: none but that the arguments are values of their types.
-/
import Derived.Test.YtclgbdfkdbbinaaGreatB0
import Derived.Test.YtclgbdfkdbbinaaGreatB10
import Derived.Test.YtclgbdfkdbbinaaGreatB12
import Derived.Test.YtclgbdfkdbbinaaGreatB4
import Derived.Test.YtclgbdfkdbbinaaGreatB1
import Derived.Test.YtclgbdfkdbbinaaGreatB5
set_option linter.unusedVariables false
set_option linter.unusedSimpArgs false
set_option maxRecDepth 100000
set_option maxHeartbeats 12800000
namespace Go.Proofs.YtclgbdfkdbbinaaGreat
open Go.RowKit
def rI (m:Pm):Int×Pm:=
 if m.rz=0 then (0,m) else if 65536<m.rz then (13,m)
 else if (aH m.m.sg m.m.zs m.rt (m.rz)).1≠0 then ((aH m.m.sg m.m.zs m.rt (m.rz)).1,m)
 else let B:=fq (aH m.m.sg m.m.zs m.rt (m.rz)).2
  if B.1≠0 then (B.1,m) else (dc B.2 m.m.sy.length,{ m with m:={ m.m with rl:=B.2 } })
theorem r9_ok (g:Nat):fp g 56 rI:=by
 intro p m w h;have H:=hZz h;have hgl:=h.lt;obtain ⟨Z,hZ⟩:∃Z,rI m=Z:=⟨_,rfl⟩
 have HZ:=hZz hZ;rw [hZ];clear hZ;have hva:=h.row.v5;have hvb:=h.row.v6;have hvb2:=hZz hvb.2;have HTM:Hid ((aH m.m.sg m.m.zs m.rt (m.rz)).2.length≤65536∧∀n∈(aH m.m.sg m.m.zs m.rt (m.rz)).2,0≤n∧n≤255):=hZz ⟨Nat.le_trans (kG _ _ _ _) h.row.lz,hG h.row.okz _ _ _⟩;have HLD:Hid (m.rz≤65536→∀w1,Ps9 g w1 p m→Calls Tryz.prog 100 #[.pointer (some ⟨g,0,none⟩),.int .u64 m.rt,.int .u64 m.rz] w1 (gz (aH m.m.sg m.m.zs m.rt (m.rz)) w1)):=hZz (fun hle w1 h1=>
  gI g p m m.rt _ w1 h1 hva.2.1 hva.2.2 (by have:=hvb.2.1;omega) (by have:=hvb.2.1;omega))
 have hsy:p.x.sy.n=m.m.sy.length:=h.sym.1.hl.symm;have hsl:=h.row.ly;obtain ⟨⟨k,e,s,c,⟨sga,sgn,sgc⟩,so,⟨nda,ndn,ndc⟩,⟨nma,nmn,nmc⟩,⟨sya,syn,syc⟩,⟨rla,rln,rlc⟩,⟨zsa,zsn,zsc⟩⟩,⟨fia,fin,fic⟩,⟨n0,n1,n2⟩,v0,v1,v2,v3,v4,v5,v6,⟨tba,tbn,tbc⟩⟩:=p;simp only at hva hvb HLD hsy;obtain ⟨rfl,-⟩:=hva;obtain ⟨rfl,-⟩:=hvb;have q19:w.cell? ⟨g,19,none⟩=some (.int .u64 m.rz):=h.box.cell 19;by_cases h0:m.rz=0
 ·have hz:=HZ.out;unfold rI at hz;rw [if_pos h0] at hz;subst hz;rw [h0] at q19;clear h h0 HZ HLD hvb2 HTM;go_enter Tryz.func56,Tryz.ntmps56
  go_wp2;go_ret;exact ⟨rfl,fun _=>⟨_,H.out⟩,Kq.refl _ _⟩
 have h0b:(m.rz==0)=false:=by simpa using h0
 by_cases h1:65536<m.rz
 ·have hz:=HZ.out;unfold rI at hz;rw [if_neg h0,if_pos h1] at hz;subst hz;clear h h0 HZ HLD hvb2 HTM;go_enter Tryz.func56,Tryz.ntmps56
  go_wp2;go_ret;exact ⟨rfl,fun e=>(by cases e),Kq.refl _ _⟩
 have h1':m.rz≤65536:=by omega
 have HLD2:=hZz (HLD.out h1');have hz:=HZ.out;unfold rI at hz;rw [if_neg h0,if_neg h1] at hz;have HZ2:=hZz hz.symm;clear hz HZ HLD;generalize aH m.m.sg m.m.zs m.rt (m.rz)=T at HLD2 HZ2 HTM;obtain ⟨te,TL⟩:=T;simp only at HZ2 HTM;obtain ⟨tn,htn⟩:∃tn,TL.length=tn:=⟨_,rfl⟩
 have HTN:=hZz htn;obtain ⟨P0,hP0⟩:∃P0:World→Prop,P0=fun w1=>Ps9 g w1 ⟨⟨k,e,s,c,⟨sga,sgn,sgc⟩,so,⟨nda,ndn,ndc⟩,⟨nma,nmn,nmc⟩,⟨sya,syn,syc⟩,⟨rla,rln,rlc⟩,⟨zsa,zsn,zsc⟩⟩,⟨fia,fin,fic⟩,⟨n0,n1,n2⟩,v0,v1,v2,v3,v4,m.rt,m.rz,⟨tba,tbn,tbc⟩⟩ (m)∧Kq g w w1:=⟨_,rfl⟩
 have HP0:Hid (P0 (w.drew)):=hZz (by rw [hP0];exact ⟨H.out.drew,(Kq.refl g w).drew (Nat.le_of_lt hgl)⟩);have HPB:Hid (∀w1,P0 w1→Blk w1 g #[.int .i64 k,.int .u64 e,.int .u64 s,.int .i64 c,.slice sga sgn sgc,.string so,.slice nda ndn ndc,.slice nma nmn nmc,.slice sya syn syc,.slice rla rln rlc,.slice zsa zsn zsc,.slice fia fin fic,.slice n0 n1 n2,.int .u64 v0,.int .u64 v1,.int .u64 v2,.int .u64 v3,.int .u64 v4,.int .u64 m.rt,.int .u64 m.rz,.slice tba tbn tbc] 72):=hZz (fun w1 h1=>by rw [hP0] at h1;exact h1.1.box);have HPC:Hid (∀w1,P0 w1→Calls Tryz.prog 100 #[.pointer (some ⟨g,0,none⟩),.int .u64 m.rt,.int .u64 m.rz] w1 fun r w2=>(∃u,r=.returned (.tuple #[u,.int .i64 te])∧w2.ownsRow (g+1) 5 1 u tn (TL.map (Value.int .u8)))∧P0 w2∧Kq g w1 w2):=hZz (fun w1 h1=>by
  rw [hP0] at h1;have hl:=h1.1.lt;refine (HLD2.out w1 h1.1).mono ?_;rintro r w2 ⟨⟨u,hr,ho⟩,hb⟩;simp only at ho;rw [htn] at ho;refine ⟨⟨u,hr,aR ho hl⟩,?_,Kq.later (Nat.le_of_lt hl) hb⟩;rw [hP0];exact ⟨h1.1.later hb,h1.2.trans (Kq.later (Nat.le_of_lt hl) hb)⟩)
 have HR1:=hZz (fun w1 (h1:P0 w1)=>(by rw [hP0] at h1;exact h1:Ps9 g w1 ⟨⟨k,e,s,c,⟨sga,sgn,sgc⟩,so,⟨nda,ndn,ndc⟩,⟨nma,nmn,nmc⟩,⟨sya,syn,syc⟩,⟨rla,rln,rlc⟩,⟨zsa,zsn,zsc⟩⟩,⟨fia,fin,fic⟩,⟨n0,n1,n2⟩,v0,v1,v2,v3,v4,m.rt,m.rz,⟨tba,tbn,tbc⟩⟩ m∧Kq g w w1));have hvb3:=hvb2.out;clear h hP0 HLD2 htn hvb2;go_enter Tryz.func56,Tryz.ntmps56
 go_wp2_with fail;refine aL (by kernel_rfl) 59 rfl [18,19,20,21,22,23,24,25,26,27,28,29,17,30,31,3,4] (Kq (g)) (aU [Is (.pointer (some ⟨g,0,none⟩)),Is (.pointer (some ⟨g,0,none⟩)),Is (.pointer (some ⟨g,0,none⟩)),Is (.pointer (some ⟨g,12,none⟩)),Is (.pointer (some ⟨g,18,none⟩)),Is (.int .u64 m.rt),Is (.pointer (some ⟨g,0,none⟩)),Is (.pointer (some ⟨g,0,none⟩)),Is (.pointer (some ⟨g,12,none⟩)),Is (.pointer (some ⟨g,19,none⟩)),Is (.int .u64 m.rz),(OwE (g+1) 5 1 tn (TL.map (Value.int .u8)) te),(OwE (g+1) 5 1 tn (TL.map (Value.int .u8)) te),(Ow (g+1) 5 1 tn (TL.map (Value.int .u8))),Is (.int .i64 te),(Ow (g+1) 5 1 tn (TL.map (Value.int .u8))),Is (.int .i64 te)]) (Jo 11 (P0) (P0)) ?mono5 ?hj5 (by kernel_rfl) ?start5 ?steps5 ?fin5;case mono5=>exact aX (ac (Is.mono9 _ _) (ac (Is.mono9 _ _) (ac (Is.mono9 _ _) (ac (Is.mono9 _ _) (ac (Is.mono9 _ _) (ac (Is.mono9 _ _) (ac (Is.mono9 _ _) (ac (Is.mono9 _ _) (ac (Is.mono9 _ _) (ac (Is.mono9 _ _) (ac (Is.mono9 _ _) (ac (OwE.mono (Nat.lt_succ_self _) _ _ _ _ _) (ac (OwE.mono (Nat.lt_succ_self _) _ _ _ _ _) (ac (Ow.mono (Nat.lt_succ_self _) _ _ _ _) (ac (Is.mono9 _ _) (ac (Ow.mono (Nat.lt_succ_self _) _ _ _ _) (ac (Is.mono9 _ _) (bU _))))))))))))))))))
 case hj5=>exact Jo.congr dZc
 case start5=>exact ⟨fun _=>HP0.out,fun h=>by cases h⟩
 case fin5=>
  intro v9 L w9 hJ hall hF;have hQ:=hJ.p1 (hall 11 dZc);have f18:v9 0=.pointer (some ⟨g,0,none⟩):=hF 0 dZc dZc;have f19:v9 1=.pointer (some ⟨g,0,none⟩):=hF 1 dZc dZc;have f20:v9 2=.pointer (some ⟨g,0,none⟩):=hF 2 dZc dZc;have f21:v9 3=.pointer (some ⟨g,12,none⟩):=hF 3 dZc dZc;have f22:v9 4=.pointer (some ⟨g,18,none⟩):=hF 4 dZc dZc;have f23:v9 5=.int .u64 m.rt:=hF 5 dZc dZc;have f24:v9 6=.pointer (some ⟨g,0,none⟩):=hF 6 dZc dZc;have f25:v9 7=.pointer (some ⟨g,0,none⟩):=hF 7 dZc dZc;have f26:v9 8=.pointer (some ⟨g,12,none⟩):=hF 8 dZc dZc;have f27:v9 9=.pointer (some ⟨g,19,none⟩):=hF 9 dZc dZc;have f28:v9 10=.int .u64 m.rz:=hF 10 dZc dZc;have f31:v9 14=.int .i64 te:=hF 14 dZc dZc;have hf3:(Ow (g+1) 5 1 tn (TL.map (Value.int .u8))) (v9 15) w9:=hF 15 dZc dZc;have f4:v9 16=.int .i64 te:=hF 16 dZc dZc;clear hJ hall hF;simp only [aO,List.set_cons_succ,List.set_cons_zero,Nat.reduceAdd,f18,f19,f20,f21,f22,f23,f24,f25,f26,f27,f28,f31,f4];clear f4 f18 f19 f20 f21 f22 f23 f24 f25 f26 f27 f28 f31;obtain ⟨hst,hkq⟩:=HR1.out _ hQ;obtain ⟨⟨ba,bn,bc⟩,-,hbn,hbv⟩:=dP hf3;simp only at hbn hbv;subst hbn;unfold Ow at hf3;rw [hbv] at hf3⊢;have HKQ:=hZz hkq;have HST:=hZz hst;have HRW:=hZz hf3;have hgl2:=hst.lt;clear hQ hkq hst hbv hf3;by_cases hte:te=0
  ·subst hte;have HBT:Hid (Bys w9 w9.heap.size ba bn TL∧bn≤bc∧(bc:Int)≤9223372036854775807):=hZz (by
    obtain ⟨e0,l0,c0⟩:=cT HRW.out;exact ⟨Bys.own HTM.out.2 HRW.out,l0,c0⟩)
   have hbn:bn≤65536:=by rw [←HTN.out];exact HTM.out.1
   have HTB:=hZz (pA w9.heap.size ba bn bc TL w9 HBT.out.1 (lZr _) oZm HBT.out.2.1 HBT.out.2.2);have HYO:=hZz (qc HTM.out.2);have HYL:Hid ((fq TL).2.length≤65536):=hZz (Nat.le_trans (td TL) HTM.out.1);have HZ3:Hid (Z=if (fq TL).1≠0 then ((fq TL).1,m) else (dc (fq TL).2 m.m.sy.length,{ m with m:={ m.m with rl:=(fq TL).2 } })):=hZz (by have hz:=HZ2.out;rw [if_neg (by decide)] at hz;exact hz);generalize fq TL=B at HTB HYO HYL HZ3;obtain ⟨be,BL⟩:=B;simp only at HTB HYO HYL HZ3;obtain ⟨yn,hyn⟩:∃yn,BL.length=yn:=⟨_,rfl⟩
   have HYN:=hZz hyn;rw [hyn] at HTB;clear hyn HZ2 HRW;go_wp2_with fail;refine HTB.out.mono ?_;rintro r w4 ⟨⟨u,rfl,ho⟩,hb4⟩;obtain ⟨⟨xa,xn,xc⟩,-,hxn,rfl⟩:=dP ho;simp only at hxn;subst hxn;have hst4:=HST.out.later hb4;have hbx4:=hst4.box;have cc:w4.cell? ⟨g,9,none⟩=some (.slice rla rln rlc):=hbx4.cell 9;have ff:=hbx4.frozen 9;have hgl4:=hbx4.lt;have hkq4:Kq g w w4:=HKQ.out.trans (Kq.later (Nat.le_of_lt hgl2) hb4);have hks:Kq g w4 (w4.setCell ⟨g,9,none⟩ (.slice xa xn xc)):=(Kq.refl g w4).set 9 _;have HKS:=hZz (hkq4.trans hks);have HSS:Hid (Ps9 g (w4.setCell ⟨g,9,none⟩ (.slice xa xn xc)) ⟨⟨k,e,s,c,⟨sga,sgn,sgc⟩,so,⟨nda,ndn,ndc⟩,⟨nma,nmn,nmc⟩,⟨sya,syn,syc⟩,⟨xa,xn,xc⟩,⟨zsa,zsn,zsc⟩⟩,⟨fia,fin,fic⟩,⟨n0,n1,n2⟩,v0,v1,v2,v3,v4,m.rt,m.rz,⟨tba,tbn,tbc⟩⟩ { m with m:={ m.m with rl:=BL } }):=hZz (
    hst4.next hks (hbx4.set 9 (.slice xa xn xc)) { hst4.row.kp hks.kp (Nat.lt_succ_self _) with rl:=by simp only;rw [HYN.out];exact cd hks.kp (aR ho hgl2) (Nat.lt_succ_self _),okr:=HYO.out } rfl rfl)
   have z9:(w4.setCell ⟨g,9,none⟩ (.slice xa xn xc)).cell? ⟨g,9,none⟩=some (.slice xa xn xc):=HSS.out.box.cell 9;have z8:(w4.setCell ⟨g,9,none⟩ (.slice xa xn xc)).cell? ⟨g,8,none⟩=some (.slice sya syn syc):=HSS.out.box.cell 8;clear ho hb4 hst4 hbx4 hkq4 hks HTB;by_cases hbe:be=0
   ·subst hbe;have hz:=HZ3.out;rw [if_neg (by decide)] at hz;subst hz;have hsyn:syn≤65536:=by omega
    have HCK:Hid (∀w1,Ps9 g w1 ⟨⟨k,e,s,c,⟨sga,sgn,sgc⟩,so,⟨nda,ndn,ndc⟩,⟨nma,nmn,nmc⟩,⟨sya,syn,syc⟩,⟨xa,xn,xc⟩,⟨zsa,zsn,zsc⟩⟩,⟨fia,fin,fic⟩,⟨n0,n1,n2⟩,v0,v1,v2,v3,v4,m.rt,m.rz,⟨tba,tbn,tbc⟩⟩ { m with m:={ m.m with rl:=BL } }→Calls Tryz.prog 106 #[.slice xa xn xc,.int .i64 syn] w1 fun r w'=>r=.returned (.int .i64 (dc BL m.m.sy.length))∧Below w1.heap.size w1 w'):=hZz (fun w1 h1=>by
     have h5:=h1.rel;have h6:=pQ w1.heap.size xa xn xc BL (syn:Int) w1 h5.1 (lZr _) h5.2.1 h5.2.2 oZm oZm;rw [hsy] at h6⊢;exact h6)
    obtain ⟨P4,hP4⟩:∃P4:World→Prop,P4=fun w1=>Ps9 g w1 ⟨⟨k,e,s,c,⟨sga,sgn,sgc⟩,so,⟨nda,ndn,ndc⟩,⟨nma,nmn,nmc⟩,⟨sya,syn,syc⟩,⟨xa,xn,xc⟩,⟨zsa,zsn,zsc⟩⟩,⟨fia,fin,fic⟩,⟨n0,n1,n2⟩,v0,v1,v2,v3,v4,m.rt,m.rz,⟨tba,tbn,tbc⟩⟩ { m with m:={ m.m with rl:=BL } }∧Kq g w w1:=⟨_,rfl⟩
    have HP0:Hid (P4 (w4.setCell ⟨g,9,none⟩ (.slice xa xn xc)).drew):=hZz (by rw [hP4];exact ⟨HSS.out.drew,HKS.out.drew (by simp;omega)⟩);clear HSS HKS hsy;go_wp2_with fail;refine aL (by kernel_rfl) 59 rfl [47,48,49,50,51,52,53,54,55,56,57,58,2] (Kq (g)) (aU [Is (.pointer (some ⟨g,0,none⟩)),Is (.pointer (some ⟨g,0,none⟩)),Is (.pointer (some ⟨g,0,none⟩)),Is (.pointer (some ⟨g,9,none⟩)),Is (.slice xa xn xc),Is (.pointer (some ⟨g,0,none⟩)),Is (.pointer (some ⟨g,0,none⟩)),Is (.pointer (some ⟨g,0,none⟩)),Is (.pointer (some ⟨g,8,none⟩)),Is (.slice sya syn syc),Is (.int .i64 syn),Is (.int .i64 (dc BL (m.m.sy.length:Int))),Is (.int .i64 (dc BL (m.m.sy.length:Int)))]) (Jo 11 (P4) (P4)) ?mono11 ?hj11 (by kernel_rfl) ?start11 ?steps11 ?fin11;case mono11=>exact aX (ac (Is.mono9 _ _) (ac (Is.mono9 _ _) (ac (Is.mono9 _ _) (ac (Is.mono9 _ _) (ac (Is.mono9 _ _) (ac (Is.mono9 _ _) (ac (Is.mono9 _ _) (ac (Is.mono9 _ _) (ac (Is.mono9 _ _) (ac (Is.mono9 _ _) (ac (Is.mono9 _ _) (ac (Is.mono9 _ _) (ac (Is.mono9 _ _) (bU _))))))))))))))
    case hj11=>exact Jo.congr dZc
    case start11=>exact ⟨fun _=>HP0.out,fun h=>by cases h⟩
    case fin11=>
     intro v9 L w9 hJ hall hF;have hQ:=hJ.p1 (hall 11 dZc);have f47:v9 0=.pointer (some ⟨g,0,none⟩):=hF 0 dZc dZc;have f48:v9 1=.pointer (some ⟨g,0,none⟩):=hF 1 dZc dZc;have f49:v9 2=.pointer (some ⟨g,0,none⟩):=hF 2 dZc dZc;have f50:v9 3=.pointer (some ⟨g,9,none⟩):=hF 3 dZc dZc;have f51:v9 4=.slice xa xn xc:=hF 4 dZc dZc;have f52:v9 5=.pointer (some ⟨g,0,none⟩):=hF 5 dZc dZc;have f53:v9 6=.pointer (some ⟨g,0,none⟩):=hF 6 dZc dZc;have f54:v9 7=.pointer (some ⟨g,0,none⟩):=hF 7 dZc dZc;have f55:v9 8=.pointer (some ⟨g,8,none⟩):=hF 8 dZc dZc;have f56:v9 9=.slice sya syn syc:=hF 9 dZc dZc;have f57:v9 10=.int .i64 syn:=hF 10 dZc dZc;have f58:v9 11=.int .i64 (dc BL (m.m.sy.length:Int)):=hF 11 dZc dZc;have f2:v9 12=.int .i64 (dc BL (m.m.sy.length:Int)):=hF 12 dZc dZc;clear hJ hall hF;simp only [aO,List.set_cons_succ,List.set_cons_zero,Nat.reduceAdd,f47,f48,f49,f50,f51,f52,f53,f54,f55,f56,f57,f58,f2];clear f2 f47 f48 f49 f50 f51 f52 f53 f54 f55 f56 f57 f58;rw [hP4] at hQ;have HST4:=hZz hQ.1;have HKQ4:=hZz hQ.2;clear hQ;go_wp2;go_ret;exact ⟨rfl,fun _=>⟨_,HST4.out⟩,HKQ4.out⟩
    case steps11=>
     refine ⟨?_,?_,?_,?_,?_,?_,?_,?_,?_,?_,?_,?_,?_,trivial⟩;all_goals intro L y w9 hJ hL hy0 hp0 hcl hun
     all_goals have hy:=hZz hy0
     all_goals have hp:=hZz hp0
     all_goals clear hy0 hp0 hun
     ·have e1:y 0=.pointer (some ⟨g,0,none⟩):=hy.out 0 dZc;have hJ3:=hZz (hJ.pure (show (11:Nat)≠0 by decide));intro K Q hK;clear hcl hJ;obtain ⟨A,hA,v1⟩:=evA1 (n:=59) e1 dZc;rw [hA] at hK⊢;clear hA hy hp;go_simp;exact hK _ _ ⟨Kq.refl _ _,fun _=>rfl,hJ3.out⟩
     ·have e1:y 47=.pointer (some ⟨g,0,none⟩):=(hp.out 0 dZc).2 dZc;have hJ3:=hZz (hJ.pure (show (11:Nat)≠1 by decide));intro K Q hK;clear hcl hJ;obtain ⟨A,hA,v1⟩:=evA1 (n:=59) e1 dZc;rw [hA] at hK⊢;clear hA hy hp;go_simp;exact hK _ _ ⟨Kq.refl _ _,fun _=>rfl,hJ3.out⟩
     ·have e1:y 48=.pointer (some ⟨g,0,none⟩):=(hp.out 1 dZc).2 dZc;have hJ3:=hZz (hJ.pure (show (11:Nat)≠2 by decide));intro K Q hK;clear hcl hJ;obtain ⟨A,hA,v1⟩:=evA1 (n:=59) e1 dZc;rw [hA] at hK⊢;clear hA hy hp;go_simp;exact hK _ _ ⟨Kq.refl _ _,fun _=>rfl,hJ3.out⟩
     ·have e1:y 49=.pointer (some ⟨g,0,none⟩):=(hp.out 2 dZc).2 dZc;have hJ3:=hZz (hJ.pure (show (11:Nat)≠3 by decide));intro K Q hK;clear hcl hJ;obtain ⟨A,hA,v1⟩:=evA1 (n:=59) e1 dZc;rw [hA] at hK⊢;clear hA hy hp;go_simp;exact hK _ _ ⟨Kq.refl _ _,fun _=>rfl,hJ3.out⟩
     ·have e1:y 50=.pointer (some ⟨g,9,none⟩):=(hp.out 3 dZc).2 dZc;have hLj:L 11=false:=by
       cases h:L 11 with
       | false=>rfl
       | true=>have:=(hcl 11 _ rfl h 4 dZc);rw [hL] at this;cases this
      have hP:=hZz (hJ.p0 hLj);have q9:w9.cell? ⟨g,9,none⟩=some (.slice xa xn xc):=(show Blk w9 g _ _ from (by have h9:=hP.out;rw [hP4] at h9;exact h9.1.box)).cell 9;have hJ3:=hZz (hJ.pure (show (11:Nat)≠4 by decide));intro K Q hK;clear hcl hJ;obtain ⟨A,hA,v1⟩:=evA1 (n:=59) e1 dZc;rw [hA] at hK⊢;clear hA hy hp;go_simp;exact hK _ _ ⟨Kq.refl _ _,fun _=>rfl,hJ3.out⟩
     ·have e1:y 0=.pointer (some ⟨g,0,none⟩):=hy.out 0 dZc;have hJ3:=hZz (hJ.pure (show (11:Nat)≠5 by decide));intro K Q hK;clear hcl hJ;obtain ⟨A,hA,v1⟩:=evA1 (n:=59) e1 dZc;rw [hA] at hK⊢;clear hA hy hp;go_simp;exact hK _ _ ⟨Kq.refl _ _,fun _=>rfl,hJ3.out⟩
     ·have e1:y 52=.pointer (some ⟨g,0,none⟩):=(hp.out 5 dZc).2 dZc;have hJ3:=hZz (hJ.pure (show (11:Nat)≠6 by decide));intro K Q hK;clear hcl hJ;obtain ⟨A,hA,v1⟩:=evA1 (n:=59) e1 dZc;rw [hA] at hK⊢;clear hA hy hp;go_simp;exact hK _ _ ⟨Kq.refl _ _,fun _=>rfl,hJ3.out⟩
     ·have e1:y 53=.pointer (some ⟨g,0,none⟩):=(hp.out 6 dZc).2 dZc;have hJ3:=hZz (hJ.pure (show (11:Nat)≠7 by decide));intro K Q hK;clear hcl hJ;obtain ⟨A,hA,v1⟩:=evA1 (n:=59) e1 dZc;rw [hA] at hK⊢;clear hA hy hp;go_simp;exact hK _ _ ⟨Kq.refl _ _,fun _=>rfl,hJ3.out⟩
     ·have e1:y 54=.pointer (some ⟨g,0,none⟩):=(hp.out 7 dZc).2 dZc;have hJ3:=hZz (hJ.pure (show (11:Nat)≠8 by decide));intro K Q hK;clear hcl hJ;obtain ⟨A,hA,v1⟩:=evA1 (n:=59) e1 dZc;rw [hA] at hK⊢;clear hA hy hp;go_simp;exact hK _ _ ⟨Kq.refl _ _,fun _=>rfl,hJ3.out⟩
     ·have e1:y 55=.pointer (some ⟨g,8,none⟩):=(hp.out 8 dZc).2 dZc;have hLj:L 11=false:=by
       cases h:L 11 with
       | false=>rfl
       | true=>have:=(hcl 10 _ rfl (hcl 11 _ rfl h 10 dZc) 9 dZc);rw [hL] at this;cases this
      have hP:=hZz (hJ.p0 hLj);have q8:w9.cell? ⟨g,8,none⟩=some (.slice sya syn syc):=(show Blk w9 g _ _ from (by have h9:=hP.out;rw [hP4] at h9;exact h9.1.box)).cell 8;have hJ3:=hZz (hJ.pure (show (11:Nat)≠9 by decide));intro K Q hK;clear hcl hJ;obtain ⟨A,hA,v1⟩:=evA1 (n:=59) e1 dZc;rw [hA] at hK⊢;clear hA hy hp;go_simp;exact hK _ _ ⟨Kq.refl _ _,fun _=>rfl,hJ3.out⟩
     ·have e1:y 56=.slice sya syn syc:=(hp.out 9 dZc).2 dZc;have hJ3:=hZz (hJ.pure (show (11:Nat)≠10 by decide));intro K Q hK;clear hcl hJ;obtain ⟨A,hA,v1⟩:=evA1 (n:=59) e1 dZc;rw [hA] at hK⊢;clear hA hy hp;go_simp;exact hK _ _ ⟨Kq.refl _ _,fun _=>rfl,hJ3.out⟩
     ·have e1:y 51=.slice xa xn xc:=(hp.out 4 dZc).2 dZc;have e2:y 57=.int .i64 syn:=(hp.out 10 dZc).2 dZc;have hP:=hZz (hJ.p0 hL);have hst4:=hP.out;rw [hP4] at hst4;have hlt4:=hst4.1.lt;intro K Q hK;clear hcl hJ;obtain ⟨A,hA,v1,v2⟩:=evA2 (n:=59) e1 e2 dZc dZc;rw [hA] at hK⊢;clear hA hy hp;go_simp;go_at_call 106
      refine (HCK.out _ hst4.1).mono ?_;rintro r w7 ⟨rfl,hb7⟩;have hk7:Kq g w9 w7:=Kq.later (Nat.le_of_lt hlt4) hb7;exact hK _ _ ⟨hk7,fun _=>rfl,Jo.second (by rw [hP4];exact ⟨hst4.1.later hb7,hst4.2.trans hk7⟩)⟩
     ·have e1:y 58=.int .i64 (dc BL (m.m.sy.length:Int)):=(hp.out 11 dZc).2 dZc;have hJ3:=hZz (hJ.pure (show (11:Nat)≠12 by decide));intro K Q hK;clear hcl hJ;obtain ⟨A,hA,v1⟩:=evA1 (n:=59) e1 dZc;rw [hA] at hK⊢;clear hA hy hp;go_simp;exact hK _ _ ⟨Kq.refl _ _,fun _=>rfl,hJ3.out⟩
   ·have hz:=HZ3.out;rw [if_pos hbe] at hz;subst hz;have hbb:(be != 0)=true:=by rw [bne_iff_ne];exact hbe
    go_wp2;go_ret;exact ⟨rfl,fun e=>absurd e hbe,HKS.out⟩
  ·have hz:=HZ2.out;rw [if_pos hte] at hz;subst hz;have hteb:(te != 0)=true:=by rw [bne_iff_ne];exact hte
   go_wp2;go_ret;exact ⟨rfl,fun e=>absurd e hte,HKQ.out⟩
 case steps5=>
  refine ⟨?_,?_,?_,?_,?_,?_,?_,?_,?_,?_,?_,?_,?_,?_,?_,?_,?_,trivial⟩;all_goals intro L y w9 hJ hL hy0 hp0 hcl hun
  all_goals have hy:=hZz hy0
  all_goals have hp:=hZz hp0
  all_goals clear hy0 hp0 hun
  ·have e1:y 0=.pointer (some ⟨g,0,none⟩):=hy.out 0 dZc;have hJ3:=hZz (hJ.pure (show (11:Nat)≠0 by decide));intro K Q hK;clear hcl hJ;obtain ⟨A,hA,v1⟩:=evA1 (n:=59) e1 dZc;rw [hA] at hK⊢;clear hA hy hp;go_simp;exact hK _ _ ⟨Kq.refl _ _,fun _=>rfl,hJ3.out⟩
  ·have e1:y 0=.pointer (some ⟨g,0,none⟩):=hy.out 0 dZc;have hJ3:=hZz (hJ.pure (show (11:Nat)≠1 by decide));intro K Q hK;clear hcl hJ;obtain ⟨A,hA,v1⟩:=evA1 (n:=59) e1 dZc;rw [hA] at hK⊢;clear hA hy hp;go_simp;exact hK _ _ ⟨Kq.refl _ _,fun _=>rfl,hJ3.out⟩
  ·have e1:y 19=.pointer (some ⟨g,0,none⟩):=(hp.out 1 dZc).2 dZc;have hJ3:=hZz (hJ.pure (show (11:Nat)≠2 by decide));intro K Q hK;clear hcl hJ;obtain ⟨A,hA,v1⟩:=evA1 (n:=59) e1 dZc;rw [hA] at hK⊢;clear hA hy hp;go_simp;exact hK _ _ ⟨Kq.refl _ _,fun _=>rfl,hJ3.out⟩
  ·have e1:y 20=.pointer (some ⟨g,0,none⟩):=(hp.out 2 dZc).2 dZc;have hJ3:=hZz (hJ.pure (show (11:Nat)≠3 by decide));intro K Q hK;clear hcl hJ;obtain ⟨A,hA,v1⟩:=evA1 (n:=59) e1 dZc;rw [hA] at hK⊢;clear hA hy hp;go_simp;exact hK _ _ ⟨Kq.refl _ _,fun _=>rfl,hJ3.out⟩
  ·have e1:y 21=.pointer (some ⟨g,12,none⟩):=(hp.out 3 dZc).2 dZc;have hJ3:=hZz (hJ.pure (show (11:Nat)≠4 by decide));intro K Q hK;clear hcl hJ;obtain ⟨A,hA,v1⟩:=evA1 (n:=59) e1 dZc;rw [hA] at hK⊢;clear hA hy hp;go_simp;exact hK _ _ ⟨Kq.refl _ _,fun _=>rfl,hJ3.out⟩
  ·have e1:y 22=.pointer (some ⟨g,18,none⟩):=(hp.out 4 dZc).2 dZc;have hLj:L 11=false:=by
    cases h:L 11 with
    | false=>rfl
    | true=>have:=(hcl 11 _ rfl h 5 dZc);rw [hL] at this;cases this
   have hP:=hZz (hJ.p0 hLj);have q18:w9.cell? ⟨g,18,none⟩=some (.int .u64 m.rt):=(HPB.out _ hP.out).cell 18;have hJ3:=hZz (hJ.pure (show (11:Nat)≠5 by decide));intro K Q hK;clear hcl hJ;obtain ⟨A,hA,v1⟩:=evA1 (n:=59) e1 dZc;rw [hA] at hK⊢;clear hA hy hp;go_simp;exact hK _ _ ⟨Kq.refl _ _,fun _=>rfl,hJ3.out⟩
  ·have e1:y 0=.pointer (some ⟨g,0,none⟩):=hy.out 0 dZc;have hJ3:=hZz (hJ.pure (show (11:Nat)≠6 by decide));intro K Q hK;clear hcl hJ;obtain ⟨A,hA,v1⟩:=evA1 (n:=59) e1 dZc;rw [hA] at hK⊢;clear hA hy hp;go_simp;exact hK _ _ ⟨Kq.refl _ _,fun _=>rfl,hJ3.out⟩
  ·have e1:y 24=.pointer (some ⟨g,0,none⟩):=(hp.out 6 dZc).2 dZc;have hJ3:=hZz (hJ.pure (show (11:Nat)≠7 by decide));intro K Q hK;clear hcl hJ;obtain ⟨A,hA,v1⟩:=evA1 (n:=59) e1 dZc;rw [hA] at hK⊢;clear hA hy hp;go_simp;exact hK _ _ ⟨Kq.refl _ _,fun _=>rfl,hJ3.out⟩
  ·have e1:y 25=.pointer (some ⟨g,0,none⟩):=(hp.out 7 dZc).2 dZc;have hJ3:=hZz (hJ.pure (show (11:Nat)≠8 by decide));intro K Q hK;clear hcl hJ;obtain ⟨A,hA,v1⟩:=evA1 (n:=59) e1 dZc;rw [hA] at hK⊢;clear hA hy hp;go_simp;exact hK _ _ ⟨Kq.refl _ _,fun _=>rfl,hJ3.out⟩
  ·have e1:y 26=.pointer (some ⟨g,12,none⟩):=(hp.out 8 dZc).2 dZc;have hJ3:=hZz (hJ.pure (show (11:Nat)≠9 by decide));intro K Q hK;clear hcl hJ;obtain ⟨A,hA,v1⟩:=evA1 (n:=59) e1 dZc;rw [hA] at hK⊢;clear hA hy hp;go_simp;exact hK _ _ ⟨Kq.refl _ _,fun _=>rfl,hJ3.out⟩
  ·have e1:y 27=.pointer (some ⟨g,19,none⟩):=(hp.out 9 dZc).2 dZc;have hLj:L 11=false:=by
    cases h:L 11 with
    | false=>rfl
    | true=>have:=(hcl 11 _ rfl h 10 dZc);rw [hL] at this;cases this
   have hP:=hZz (hJ.p0 hLj);have q19:w9.cell? ⟨g,19,none⟩=some (.int .u64 m.rz):=(HPB.out _ hP.out).cell 19;have hJ3:=hZz (hJ.pure (show (11:Nat)≠10 by decide));intro K Q hK;clear hcl hJ;obtain ⟨A,hA,v1⟩:=evA1 (n:=59) e1 dZc;rw [hA] at hK⊢;clear hA hy hp;go_simp;exact hK _ _ ⟨Kq.refl _ _,fun _=>rfl,hJ3.out⟩
  ·have e1:y 18=.pointer (some ⟨g,0,none⟩):=(hp.out 0 dZc).2 dZc;have e2:y 23=.int .u64 m.rt:=(hp.out 5 dZc).2 dZc;have e3:y 28=.int .u64 m.rz:=(hp.out 10 dZc).2 dZc;have hP:=hZz (hJ.p0 hL);intro K Q hK;clear hcl hJ;obtain ⟨A,hA,v1,v2,v3⟩:=evA3 (n:=59) e1 e2 e3 dZc dZc dZc;rw [hA] at hK⊢;clear hA hy hp;go_simp;go_at_call 100
   refine (HPC.out _ hP.out).mono ?_;rintro r w7 ⟨⟨u,rfl,ho⟩,hp7,hk7⟩;exact hK _ _ ⟨hk7,fun _=>⟨u,rfl,ho⟩,Jo.second hp7⟩
  ·have e1:(OwE (g+1) 5 1 tn (TL.map (Value.int .u8)) te) (y 29) w9:=(hp.out 11 dZc).2 dZc;obtain ⟨u1,hv1,ho1⟩:=e1;have hJ3:=hZz (hJ.pure (show (11:Nat)≠12 by decide));intro K Q hK;clear hcl hJ;obtain ⟨A,hA,v1⟩:=evA1 (n:=59) hv1 dZc;rw [hA] at hK⊢;clear hA hy hp;go_simp;exact hK _ _ ⟨Kq.refl _ _,fun _=>⟨_,rfl,ho1⟩,hJ3.out⟩
  ·have e1:(OwE (g+1) 5 1 tn (TL.map (Value.int .u8)) te) (y 17) w9:=(hp.out 12 dZc).2 dZc;obtain ⟨u1,hv1,ho1⟩:=e1;have hJ3:=hZz (hJ.pure (show (11:Nat)≠13 by decide));intro K Q hK;clear hcl hJ;obtain ⟨A,hA,v1⟩:=evA1 (n:=59) hv1 dZc;rw [hA] at hK⊢;clear hA hy hp;go_simp;exact hK _ _ ⟨Kq.refl _ _,fun _=>ho1,hJ3.out⟩
  ·have e1:(OwE (g+1) 5 1 tn (TL.map (Value.int .u8)) te) (y 17) w9:=(hp.out 12 dZc).2 dZc;obtain ⟨u1,hv1,ho1⟩:=e1;have hJ3:=hZz (hJ.pure (show (11:Nat)≠14 by decide));intro K Q hK;clear hcl hJ;obtain ⟨A,hA,v1⟩:=evA1 (n:=59) hv1 dZc;rw [hA] at hK⊢;clear hA hy hp;go_simp;exact hK _ _ ⟨Kq.refl _ _,fun _=>rfl,hJ3.out⟩
  ·have e1:(Ow (g+1) 5 1 tn (TL.map (Value.int .u8))) (y 30) w9:=(hp.out 13 dZc).2 dZc;have hv1:y 30=y 30:=rfl;have hJ3:=hZz (hJ.pure (show (11:Nat)≠15 by decide));intro K Q hK;clear hcl hJ;obtain ⟨A,hA,v1⟩:=evA1 (n:=59) hv1 dZc;rw [hA] at hK⊢;clear hA hy hp;go_simp;exact hK _ _ ⟨Kq.refl _ _,fun _=>e1,hJ3.out⟩
  ·have e1:y 31=.int .i64 te:=(hp.out 14 dZc).2 dZc;have hJ3:=hZz (hJ.pure (show (11:Nat)≠16 by decide));intro K Q hK;clear hcl hJ;obtain ⟨A,hA,v1⟩:=evA1 (n:=59) e1 dZc;rw [hA] at hK⊢;clear hA hy hp;go_simp;exact hK _ _ ⟨Kq.refl _ _,fun _=>rfl,hJ3.out⟩
theorem ko (x:Int) (n:Nat):gp (List.replicate n 0) 0 x n=ai x n:=by
 simp [gp,List.drop_eq_nil_of_le]
theorem jx (n:Nat):List.replicate n (Value.int .u8 0)=(List.replicate n (0:Int)).map (Value.int .u8):=by
 rw [List.map_replicate]
theorem qa (x:Int) (w:World) (x0:0≤x) (x1:x≤18446744073709551615) :
 Calls Tryz.prog 155 #[.int .u64 x] w fun r w'=>(∃g c,r=.returned (.slice (some ⟨g,0,none⟩) 8 c)∧Bys w' w'.heap.size (some ⟨g,0,none⟩) 8 (ai x 8))∧Below w.heap.size w w':=by
 obtain ⟨i0,hi,hz0,hz1,hz2⟩:=info_parts aM;have HI:=hZz hi;have HZ0:=hZz hz0;have HZ1:=hZz hz1;have HZ2:=hZz hz2;clear hi hz0 hz1 hz2;go_enter Tryz.func155,Tryz.ntmps155
 go_wp2_with (at_make;refine wpList_make_full _ rfl _ _ 22 rfl w.heap.size 5 i0 (.int .u8 0) 1 Tryz.underlying22 HI.out HZ0.out HZ1.out .i64 .i64 _ _ 8 rfl rfl rfl rfl ?c1 ?c2 ?c3 ?_);case c1=>rw [HZ2.out];omega
 case c2=>unfold maxLen;omega
 case c3=>exact lZr _
 intro w1 hown hg;have hb1:Below w.heap.size w w1:=(Below.refl _ _).grown hg (lZr _) (fun _ e=>by cases e);rw [toList_madeCells_one,jx] at hown;have HBY:=hZz (Bys.own (zs:=List.replicate 8 0) (fun m hm=>by rw [List.eq_of_mem_replicate hm];omega) hown);clear hown hg;go_wp2_with fail;refine (kC _ _ _ _ (List.replicate 8 0) 0 8 x _ HBY.out (lZr _) dZc oZm oZm x0 x1).mono ?_;rintro e w2 ⟨rfl,hown,hb2⟩;rw [ko] at hown;have HB:Hid (Bys w2 w2.heap.size (some ⟨w1.heap.size,0,none⟩) 8 (ai x 8)):=hZz (Bys.own (bE x 8) hown);have hbb:=hb1.trans (hb2.mono hb1.size);clear hown hb1 hb2;go_wp2;go_ret;exact ⟨⟨_,_,rfl,HB.out⟩,hbb⟩
theorem bJ (base:Nat) (v:Value) (m:Nat) (zs:List Int) (x y:Int) (w:World) (ho:w.ownsRow base 5 1 v m (zs.map (Value.int .u8))) (hbase:base≤w.heap.size) (hm:m≤1000000) (x0:0≤x) (x1:x≤18446744073709551615) (y0:0≤y) (y1:y≤18446744073709551615) :
 Calls Tryz.prog 123 #[v,.int .u64 x,.int .u64 y] w fun r w'=>∃v',r=.returned v'∧w'.ownsRow base 5 1 v' (m+16) ((zs++iD (x,y)).map (Value.int .u8))∧Below base w w':=by
 obtain ⟨i0,hi,hz0,hz1,hz2⟩:=info_parts aM;have HO:=hZz ho;have HI:=hZz hi;have HZ0:=hZz hz0;have HZ1:=hZz hz1;have HZ2:=hZz hz2;clear ho hi hz0 hz1 hz2;go_enter Tryz.func123,Tryz.ntmps123
 go_wp2_with fail;refine (qa x _ x0 x1).mono ?_;rintro r w1 ⟨⟨g,c,rfl,hby⟩,hb1⟩;have HO1:=hZz (own_below HO.out hb1);have HBY:=hZz hby;have HB1:=hZz (hb1.mono hbase);clear hby hb1;go_wp2_with (at_builtin;refine ag rfl _ _ 22 rfl base 5 i0 (.int .u8 0) 1 Tryz.underlying22 HI.out HZ0.out HZ1.out HZ2.out rfl _ m _ rfl HO1.out _ 8 c _ (ai x 8) rfl HBY.out (fun h=>by cases h) ?c1 ?c2 ?c3 ?_);case c1=>unfold maxLen;omega
 case c2=>omega
 case c3=>exact Nat.le_trans hbase HB1.out.size
 intro v2 w2 ho2 hg2;have hb2:=HB1.out.grown hg2 (Nat.le_trans hbase HB1.out.size) (fun q e=>(HO1.out.lt q e).1);have HO2:Hid (w2.ownsRow base 5 1 v2 (m+8) ((zs++ai x 8).map (Value.int .u8))):=hZz (by simpa only [List.map_append] using ho2);have HB2:=hZz hb2;have hs2:=hb2.size;clear ho2 hg2 hb2;go_wp2_with fail;refine (qa y _ y0 y1).mono ?_;rintro r w3 ⟨⟨g3,c3,rfl,hby⟩,hb3⟩;have HO3:=hZz (own_below HO2.out hb3);have HBY3:=hZz hby;have HB3:=hZz (HB2.out.trans (hb3.mono (Nat.le_trans hbase hs2)));clear hby hb3;go_wp2_with (at_builtin;refine ag rfl _ _ 22 rfl base 5 i0 (.int .u8 0) 1 Tryz.underlying22 HI.out HZ0.out HZ1.out HZ2.out rfl _ (m+8) _ rfl HO3.out _ 8 c3 _ (ai y 8) rfl HBY3.out (fun h=>by cases h) ?d1 ?d2 ?d3 ?_);case d1=>unfold maxLen;omega
 case d2=>omega
 case d3=>exact Nat.le_trans hbase HB3.out.size
 intro v4 w4 ho4 hg4;have hb4:=HB3.out.grown hg4 (Nat.le_trans hbase HB3.out.size) (fun q e=>(HO3.out.lt q e).1);have HO4:Hid (w4.ownsRow base 5 1 v4 (m+16) ((zs++iD (x,y)).map (Value.int .u8))):=hZz (by
  simpa only [List.map_append,List.append_assoc,Nat.add_assoc,iD] using ho4)
 clear ho4 hg4;go_wp2;go_ret;exact ⟨_,rfl,HO4.out,hb4⟩
theorem kR (B:Nat) (a:Option Addr) (len cap:Nat) (zs:List Int) (p:Nat) (w:World) (hb:Bys w B a len zs) (hl:(len:Int)≤9223372036854775807) (hs:p+8≤len) :
 Calls Tryz.prog 97 #[.slice a len cap,.int .u64 p] w fun e w'=>e=.returned (.int .u64 (num (am zs p 8)))∧w=w':=by
 have HB:=hZz hb;clear hb;go_enter Tryz.func97,Tryz.ntmps97
 go_wp2_with (go_at_call 131;refine (iz _ _ _ _ _ p 8 _ HB.out dZc hl hs).mono ?_;rintro e w' ⟨rfl,rfl⟩);go_ret;exact ⟨rfl,rfl⟩
end Go.Proofs.YtclgbdfkdbbinaaGreat
