/-
  What is proved here: words and contracts, a part of those that the statement rests on (P16).
  Conditions: none but that the arguments are values of their types.
-/
import Derived.Test.YtclgbdfkdbbinaaGreatP14
import Derived.Test.YtclgbdfkdbbinaaGreatP15
import Derived.Test.YtclgbdfkdbbinaaGreatP5
import Derived.Test.YtclgbdfkdbbinaaGreatP1
import Derived.Maps.Own
import Derived.Maps.OwnSet
import Derived.Maps.Views
set_option linter.unusedVariables false
set_option linter.unusedSimpArgs false
set_option maxRecDepth 100000
set_option maxHeartbeats 12800000
namespace Go.Proofs.YtclgbdfkdbbinaaGreat
open Go.RowKit
def rI (m:Pm):Int×Pm:=
 if m.rz=0 then (0,m) else if 65536<m.rz then (13,m)
 else if (bytesI m.m.sg m.m.zs m.rt (m.rz)).1≠0 then ((bytesI m.m.sg m.m.zs m.rt (m.rz)).1,m)
 else let B:=tabL (bytesI m.m.sg m.m.zs m.rt (m.rz)).2
  if B.1≠0 then (B.1,m) else (checkL B.2 m.m.sy.length,{ m with m:={ m.m with rl:=B.2 } })
theorem r9_ok (g:Nat):StepOk g 56 rI:=by
 intro p m w h;have H:=Lib.hid h;have hgl:=h.lt;obtain ⟨Z,hZ⟩:∃Z,rI m=Z:=⟨_,rfl⟩
 have HZ:=Lib.hid hZ;rw [hZ];clear hZ;have hva:=h.row.v5;have hvb:=h.row.v6;have hvb2:=Lib.hid hvb.2;have HTM:Hid ((bytesI m.m.sg m.m.zs m.rt (m.rz)).2.length≤65536∧∀n∈(bytesI m.m.sg m.m.zs m.rt (m.rz)).2,0≤n∧n≤255):=Lib.hid ⟨Nat.le_trans (bytesI_max _ _ _ _) h.row.lz,bytesI_bd h.row.okz _ _ _⟩;have HLD:Hid (m.rz≤65536→∀w1,Ps9 g w1 p m→Calls Tryz.prog 100 #[.pointer (some ⟨g,0,none⟩),.int .u64 m.rt,.int .u64 m.rz] w1 (CutPost (bytesI m.m.sg m.m.zs m.rt (m.rz)) w1)):=Lib.hid (fun hle w1 h1=>
  loaded9_any g p m m.rt _ w1 h1 hva.2.1 hva.2.2 (by have:=hvb.2.1;omega) (by have:=hvb.2.1;omega))
 have hsy:p.x.sy.n=m.m.sy.length:=h.sym.1.hl.symm;have hsl:=h.row.ly;obtain ⟨⟨k,e,s,c,⟨sga,sgn,sgc⟩,so,⟨nda,ndn,ndc⟩,⟨nma,nmn,nmc⟩,⟨sya,syn,syc⟩,⟨rla,rln,rlc⟩,⟨zsa,zsn,zsc⟩⟩,⟨fia,fin,fic⟩,⟨n0,n1,n2⟩,v0,v1,v2,v3,v4,v5,v6,⟨tba,tbn,tbc⟩⟩:=p;simp only at hva hvb HLD hsy;obtain ⟨rfl,-⟩:=hva;obtain ⟨rfl,-⟩:=hvb;have q19:w.cell? ⟨g,19,none⟩=some (.int .u64 m.rz):=h.box.cell 19;by_cases h0:m.rz=0
 ·have hz:=HZ.out;unfold rI at hz;rw [if_pos h0] at hz;subst hz;rw [h0] at q19;clear h h0 HZ HLD hvb2 HTM;go_enter Tryz.func56,Tryz.ntmps56
  go_wp2;go_ret;exact ⟨rfl,fun _=>⟨_,H.out⟩,Kq.refl _ _⟩
 have h0b:(m.rz==0)=false:=by simpa using h0
 by_cases h1:65536<m.rz
 ·have hz:=HZ.out;unfold rI at hz;rw [if_neg h0,if_pos h1] at hz;subst hz;clear h h0 HZ HLD hvb2 HTM;go_enter Tryz.func56,Tryz.ntmps56
  go_wp2;go_ret;exact ⟨rfl,fun e=>(by cases e),Kq.refl _ _⟩
 have h1':m.rz≤65536:=by omega
 have HLD2:=Lib.hid (HLD.out h1');have hz:=HZ.out;unfold rI at hz;rw [if_neg h0,if_neg h1] at hz;have HZ2:=Lib.hid hz.symm;clear hz HZ HLD;generalize bytesI m.m.sg m.m.zs m.rt (m.rz)=T at HLD2 HZ2 HTM;obtain ⟨te,TL⟩:=T;simp only at HZ2 HTM;obtain ⟨tn,htn⟩:∃tn,TL.length=tn:=⟨_,rfl⟩
 have HTN:=Lib.hid htn;obtain ⟨P0,hP0⟩:∃P0:World→Prop,P0=fun w1=>Ps9 g w1 ⟨⟨k,e,s,c,⟨sga,sgn,sgc⟩,so,⟨nda,ndn,ndc⟩,⟨nma,nmn,nmc⟩,⟨sya,syn,syc⟩,⟨rla,rln,rlc⟩,⟨zsa,zsn,zsc⟩⟩,⟨fia,fin,fic⟩,⟨n0,n1,n2⟩,v0,v1,v2,v3,v4,m.rt,m.rz,⟨tba,tbn,tbc⟩⟩ (m)∧Kq g w w1:=⟨_,rfl⟩
 have HP0:Hid (P0 (w.drew)):=Lib.hid (by rw [hP0];exact ⟨H.out.drew,(Kq.refl g w).drew (Nat.le_of_lt hgl)⟩);have HPB:Hid (∀w1,P0 w1→Blk w1 g #[.int .i64 k,.int .u64 e,.int .u64 s,.int .i64 c,.slice sga sgn sgc,.string so,.slice nda ndn ndc,.slice nma nmn nmc,.slice sya syn syc,.slice rla rln rlc,.slice zsa zsn zsc,.slice fia fin fic,.slice n0 n1 n2,.int .u64 v0,.int .u64 v1,.int .u64 v2,.int .u64 v3,.int .u64 v4,.int .u64 m.rt,.int .u64 m.rz,.slice tba tbn tbc] 72):=Lib.hid (fun w1 h1=>by rw [hP0] at h1;exact h1.1.box);have HPC:Hid (∀w1,P0 w1→Calls Tryz.prog 100 #[.pointer (some ⟨g,0,none⟩),.int .u64 m.rt,.int .u64 m.rz] w1 fun r w2=>(∃u,r=.returned (.tuple #[u,.int .i64 te])∧w2.ownsRow (g+1) 5 1 u tn (TL.map (Value.int .u8)))∧P0 w2∧Kq g w1 w2):=Lib.hid (fun w1 h1=>by
  rw [hP0] at h1;have hl:=h1.1.lt;refine (HLD2.out w1 h1.1).mono ?_;rintro r w2 ⟨⟨u,hr,ho⟩,hb⟩;simp only at ho;rw [htn] at ho;refine ⟨⟨u,hr,own_base9 ho hl⟩,?_,Kq.later (Nat.le_of_lt hl) hb⟩;rw [hP0];exact ⟨h1.1.later hb,h1.2.trans (Kq.later (Nat.le_of_lt hl) hb)⟩)
 have HR1:=Lib.hid (fun w1 (h1:P0 w1)=>(by rw [hP0] at h1;exact h1:Ps9 g w1 ⟨⟨k,e,s,c,⟨sga,sgn,sgc⟩,so,⟨nda,ndn,ndc⟩,⟨nma,nmn,nmc⟩,⟨sya,syn,syc⟩,⟨rla,rln,rlc⟩,⟨zsa,zsn,zsc⟩⟩,⟨fia,fin,fic⟩,⟨n0,n1,n2⟩,v0,v1,v2,v3,v4,m.rt,m.rz,⟨tba,tbn,tbc⟩⟩ m∧Kq g w w1));have hvb3:=hvb2.out;clear h hP0 HLD2 htn hvb2;go_enter Tryz.func56,Tryz.ntmps56
 go_wp2_with fail;refine wp_region_word (by kernel_rfl) 59 rfl [18,19,20,21,22,23,24,25,26,27,28,29,17,30,31,3,4] (Kq (g)) (factsOf [Is (.pointer (some ⟨g,0,none⟩)),Is (.pointer (some ⟨g,0,none⟩)),Is (.pointer (some ⟨g,0,none⟩)),Is (.pointer (some ⟨g,12,none⟩)),Is (.pointer (some ⟨g,18,none⟩)),Is (.int .u64 m.rt),Is (.pointer (some ⟨g,0,none⟩)),Is (.pointer (some ⟨g,0,none⟩)),Is (.pointer (some ⟨g,12,none⟩)),Is (.pointer (some ⟨g,19,none⟩)),Is (.int .u64 m.rz),(OwE (g+1) 5 1 tn (TL.map (Value.int .u8)) te),(OwE (g+1) 5 1 tn (TL.map (Value.int .u8)) te),(Ow (g+1) 5 1 tn (TL.map (Value.int .u8))),Is (.int .i64 te),(Ow (g+1) 5 1 tn (TL.map (Value.int .u8))),Is (.int .i64 te)]) (Jo 11 (P0) (P0)) ?mono5 ?hj5 (by kernel_rfl) ?start5 ?steps5 ?fin5;case mono5=>exact factsOf_mono9 (mono9_cons (Is.mono9 _ _) (mono9_cons (Is.mono9 _ _) (mono9_cons (Is.mono9 _ _) (mono9_cons (Is.mono9 _ _) (mono9_cons (Is.mono9 _ _) (mono9_cons (Is.mono9 _ _) (mono9_cons (Is.mono9 _ _) (mono9_cons (Is.mono9 _ _) (mono9_cons (Is.mono9 _ _) (mono9_cons (Is.mono9 _ _) (mono9_cons (Is.mono9 _ _) (mono9_cons (OwE.mono (Nat.lt_succ_self _) _ _ _ _ _) (mono9_cons (OwE.mono (Nat.lt_succ_self _) _ _ _ _ _) (mono9_cons (Ow.mono (Nat.lt_succ_self _) _ _ _ _) (mono9_cons (Is.mono9 _ _) (mono9_cons (Ow.mono (Nat.lt_succ_self _) _ _ _ _) (mono9_cons (Is.mono9 _ _) (mono9_nil _))))))))))))))))))
 case hj5=>exact Jo.congr (by decide)
 case start5=>exact ⟨fun _=>HP0.out,fun h=>by cases h⟩
 case fin5=>
  intro v9 L w9 hJ hall hF;have hQ:=hJ.p1 (hall 11 (by decide));have f18:v9 0=.pointer (some ⟨g,0,none⟩):=hF 0 (by decide) (by decide);have f19:v9 1=.pointer (some ⟨g,0,none⟩):=hF 1 (by decide) (by decide);have f20:v9 2=.pointer (some ⟨g,0,none⟩):=hF 2 (by decide) (by decide);have f21:v9 3=.pointer (some ⟨g,12,none⟩):=hF 3 (by decide) (by decide);have f22:v9 4=.pointer (some ⟨g,18,none⟩):=hF 4 (by decide) (by decide);have f23:v9 5=.int .u64 m.rt:=hF 5 (by decide) (by decide);have f24:v9 6=.pointer (some ⟨g,0,none⟩):=hF 6 (by decide) (by decide);have f25:v9 7=.pointer (some ⟨g,0,none⟩):=hF 7 (by decide) (by decide);have f26:v9 8=.pointer (some ⟨g,12,none⟩):=hF 8 (by decide) (by decide);have f27:v9 9=.pointer (some ⟨g,19,none⟩):=hF 9 (by decide) (by decide);have f28:v9 10=.int .u64 m.rz:=hF 10 (by decide) (by decide);have f31:v9 14=.int .i64 te:=hF 14 (by decide) (by decide);have hf3:(Ow (g+1) 5 1 tn (TL.map (Value.int .u8))) (v9 15) w9:=hF 15 (by decide) (by decide);have f4:v9 16=.int .i64 te:=hF 16 (by decide) (by decide);clear hJ hall hF;simp only [putAll,List.set_cons_succ,List.set_cons_zero,Nat.reduceAdd,f18,f19,f20,f21,f22,f23,f24,f25,f26,f27,f28,f31,f4];clear f4 f18 f19 f20 f21 f22 f23 f24 f25 f26 f27 f28 f31;obtain ⟨hst,hkq⟩:=HR1.out _ hQ;obtain ⟨⟨ba,bn,bc⟩,-,hbn,hbv⟩:=own_sh hf3;simp only at hbn hbv;subst hbn;unfold Ow at hf3;rw [hbv] at hf3⊢;have HKQ:=Lib.hid hkq;have HST:=Lib.hid hst;have HRW:=Lib.hid hf3;have hgl2:=hst.lt;clear hQ hkq hst hbv hf3;by_cases hte:te=0
  ·subst hte;have HBT:Hid (Bys w9 w9.heap.size ba bn TL∧bn≤bc∧(bc:Int)≤9223372036854775807):=Lib.hid (by
    obtain ⟨e0,l0,c0⟩:=own_n HRW.out;exact ⟨Bys.own HTM.out.2 HRW.out,l0,c0⟩)
   have hbn:bn≤65536:=by rw [←HTN.out];exact HTM.out.1
   have HTB:=Lib.hid (ltable_any w9.heap.size ba bn bc TL w9 HBT.out.1 (Nat.le_refl _) (by omega) HBT.out.2.1 HBT.out.2.2);have HYO:=Lib.hid (tabL_ok HTM.out.2);have HYL:Hid ((tabL TL).2.length≤65536):=Lib.hid (Nat.le_trans (tabL_len TL) HTM.out.1);have HZ3:Hid (Z=if (tabL TL).1≠0 then ((tabL TL).1,m) else (checkL (tabL TL).2 m.m.sy.length,{ m with m:={ m.m with rl:=(tabL TL).2 } })):=Lib.hid (by have hz:=HZ2.out;rw [if_neg (by decide)] at hz;exact hz);generalize tabL TL=B at HTB HYO HYL HZ3;obtain ⟨be,BL⟩:=B;simp only at HTB HYO HYL HZ3;obtain ⟨yn,hyn⟩:∃yn,BL.length=yn:=⟨_,rfl⟩
   have HYN:=Lib.hid hyn;rw [hyn] at HTB;clear hyn HZ2 HRW;go_wp2_with fail;refine HTB.out.mono ?_;rintro r w4 ⟨⟨u,rfl,ho⟩,hb4⟩;obtain ⟨⟨xa,xn,xc⟩,-,hxn,rfl⟩:=own_sh ho;simp only at hxn;subst hxn;have hst4:=HST.out.later hb4;have hbx4:=hst4.box;have cc:w4.cell? ⟨g,9,none⟩=some (.slice rla rln rlc):=hbx4.cell 9;have ff:=hbx4.frozen 9;have hgl4:=hbx4.lt;have hkq4:Kq g w w4:=HKQ.out.trans (Kq.later (Nat.le_of_lt hgl2) hb4);have hks:Kq g w4 (w4.setCell ⟨g,9,none⟩ (.slice xa xn xc)):=(Kq.refl g w4).set 9 _;have HKS:=Lib.hid (hkq4.trans hks);have HSS:Hid (Ps9 g (w4.setCell ⟨g,9,none⟩ (.slice xa xn xc)) ⟨⟨k,e,s,c,⟨sga,sgn,sgc⟩,so,⟨nda,ndn,ndc⟩,⟨nma,nmn,nmc⟩,⟨sya,syn,syc⟩,⟨xa,xn,xc⟩,⟨zsa,zsn,zsc⟩⟩,⟨fia,fin,fic⟩,⟨n0,n1,n2⟩,v0,v1,v2,v3,v4,m.rt,m.rz,⟨tba,tbn,tbc⟩⟩ { m with m:={ m.m with rl:=BL } }):=Lib.hid (
    hst4.next hks (hbx4.set 9 (.slice xa xn xc)) { hst4.row.kp hks.kp (Nat.lt_succ_self _) with rl:=by simp only;rw [HYN.out];exact own_kp hks.kp (own_base9 ho hgl2) (Nat.lt_succ_self _),okr:=HYO.out } rfl rfl)
   have z9:(w4.setCell ⟨g,9,none⟩ (.slice xa xn xc)).cell? ⟨g,9,none⟩=some (.slice xa xn xc):=HSS.out.box.cell 9;have z8:(w4.setCell ⟨g,9,none⟩ (.slice xa xn xc)).cell? ⟨g,8,none⟩=some (.slice sya syn syc):=HSS.out.box.cell 8;clear ho hb4 hst4 hbx4 hkq4 hks HTB;by_cases hbe:be=0
   ·subst hbe;have hz:=HZ3.out;rw [if_neg (by decide)] at hz;subst hz;have hsyn:syn≤65536:=by omega
    have HCK:Hid (∀w1,Ps9 g w1 ⟨⟨k,e,s,c,⟨sga,sgn,sgc⟩,so,⟨nda,ndn,ndc⟩,⟨nma,nmn,nmc⟩,⟨sya,syn,syc⟩,⟨xa,xn,xc⟩,⟨zsa,zsn,zsc⟩⟩,⟨fia,fin,fic⟩,⟨n0,n1,n2⟩,v0,v1,v2,v3,v4,m.rt,m.rz,⟨tba,tbn,tbc⟩⟩ { m with m:={ m.m with rl:=BL } }→Calls Tryz.prog 106 #[.slice xa xn xc,.int .i64 syn] w1 fun r w'=>r=.returned (.int .i64 (checkL BL m.m.sy.length))∧Below w1.heap.size w1 w'):=Lib.hid (fun w1 h1=>by
     have h5:=h1.rel;have h6:=lcheck_any w1.heap.size xa xn xc BL (syn:Int) w1 h5.1 (Nat.le_refl _) h5.2.1 h5.2.2 (by omega) (by omega);rw [hsy] at h6⊢;exact h6)
    obtain ⟨P4,hP4⟩:∃P4:World→Prop,P4=fun w1=>Ps9 g w1 ⟨⟨k,e,s,c,⟨sga,sgn,sgc⟩,so,⟨nda,ndn,ndc⟩,⟨nma,nmn,nmc⟩,⟨sya,syn,syc⟩,⟨xa,xn,xc⟩,⟨zsa,zsn,zsc⟩⟩,⟨fia,fin,fic⟩,⟨n0,n1,n2⟩,v0,v1,v2,v3,v4,m.rt,m.rz,⟨tba,tbn,tbc⟩⟩ { m with m:={ m.m with rl:=BL } }∧Kq g w w1:=⟨_,rfl⟩
    have HP0:Hid (P4 (w4.setCell ⟨g,9,none⟩ (.slice xa xn xc)).drew):=Lib.hid (by rw [hP4];exact ⟨HSS.out.drew,HKS.out.drew (by simp;omega)⟩);clear HSS HKS hsy;go_wp2_with fail;refine wp_region_word (by kernel_rfl) 59 rfl [47,48,49,50,51,52,53,54,55,56,57,58,2] (Kq (g)) (factsOf [Is (.pointer (some ⟨g,0,none⟩)),Is (.pointer (some ⟨g,0,none⟩)),Is (.pointer (some ⟨g,0,none⟩)),Is (.pointer (some ⟨g,9,none⟩)),Is (.slice xa xn xc),Is (.pointer (some ⟨g,0,none⟩)),Is (.pointer (some ⟨g,0,none⟩)),Is (.pointer (some ⟨g,0,none⟩)),Is (.pointer (some ⟨g,8,none⟩)),Is (.slice sya syn syc),Is (.int .i64 syn),Is (.int .i64 (checkL BL (m.m.sy.length:Int))),Is (.int .i64 (checkL BL (m.m.sy.length:Int)))]) (Jo 11 (P4) (P4)) ?mono11 ?hj11 (by kernel_rfl) ?start11 ?steps11 ?fin11;case mono11=>exact factsOf_mono9 (mono9_cons (Is.mono9 _ _) (mono9_cons (Is.mono9 _ _) (mono9_cons (Is.mono9 _ _) (mono9_cons (Is.mono9 _ _) (mono9_cons (Is.mono9 _ _) (mono9_cons (Is.mono9 _ _) (mono9_cons (Is.mono9 _ _) (mono9_cons (Is.mono9 _ _) (mono9_cons (Is.mono9 _ _) (mono9_cons (Is.mono9 _ _) (mono9_cons (Is.mono9 _ _) (mono9_cons (Is.mono9 _ _) (mono9_cons (Is.mono9 _ _) (mono9_nil _))))))))))))))
    case hj11=>exact Jo.congr (by decide)
    case start11=>exact ⟨fun _=>HP0.out,fun h=>by cases h⟩
    case fin11=>
     intro v9 L w9 hJ hall hF;have hQ:=hJ.p1 (hall 11 (by decide));have f47:v9 0=.pointer (some ⟨g,0,none⟩):=hF 0 (by decide) (by decide);have f48:v9 1=.pointer (some ⟨g,0,none⟩):=hF 1 (by decide) (by decide);have f49:v9 2=.pointer (some ⟨g,0,none⟩):=hF 2 (by decide) (by decide);have f50:v9 3=.pointer (some ⟨g,9,none⟩):=hF 3 (by decide) (by decide);have f51:v9 4=.slice xa xn xc:=hF 4 (by decide) (by decide);have f52:v9 5=.pointer (some ⟨g,0,none⟩):=hF 5 (by decide) (by decide);have f53:v9 6=.pointer (some ⟨g,0,none⟩):=hF 6 (by decide) (by decide);have f54:v9 7=.pointer (some ⟨g,0,none⟩):=hF 7 (by decide) (by decide);have f55:v9 8=.pointer (some ⟨g,8,none⟩):=hF 8 (by decide) (by decide);have f56:v9 9=.slice sya syn syc:=hF 9 (by decide) (by decide);have f57:v9 10=.int .i64 syn:=hF 10 (by decide) (by decide);have f58:v9 11=.int .i64 (checkL BL (m.m.sy.length:Int)):=hF 11 (by decide) (by decide);have f2:v9 12=.int .i64 (checkL BL (m.m.sy.length:Int)):=hF 12 (by decide) (by decide);clear hJ hall hF;simp only [putAll,List.set_cons_succ,List.set_cons_zero,Nat.reduceAdd,f47,f48,f49,f50,f51,f52,f53,f54,f55,f56,f57,f58,f2];clear f2 f47 f48 f49 f50 f51 f52 f53 f54 f55 f56 f57 f58;rw [hP4] at hQ;have HST4:=Lib.hid hQ.1;have HKQ4:=Lib.hid hQ.2;clear hQ;go_wp2;go_ret;exact ⟨rfl,fun _=>⟨_,HST4.out⟩,HKQ4.out⟩
    case steps11=>
     refine ⟨?_,?_,?_,?_,?_,?_,?_,?_,?_,?_,?_,?_,?_,trivial⟩;all_goals intro L y w9 hJ hL hy0 hp0 hcl hun
     all_goals have hy:=Lib.hid hy0
     all_goals have hp:=Lib.hid hp0
     all_goals clear hy0 hp0 hun
     ·have e1:y 0=.pointer (some ⟨g,0,none⟩):=hy.out 0 (by decide);have hJ3:=Lib.hid (hJ.pure (show (11:Nat)≠0 by decide));intro K Q hK;clear hcl hJ;obtain ⟨A,hA,v1⟩:=evA1 (n:=59) e1 (by decide);rw [hA] at hK⊢;clear hA hy hp;go_simp;exact hK _ _ ⟨Kq.refl _ _,fun _=>rfl,hJ3.out⟩
     ·have e1:y 47=.pointer (some ⟨g,0,none⟩):=(hp.out 0 (by decide)).2 (by decide);have hJ3:=Lib.hid (hJ.pure (show (11:Nat)≠1 by decide));intro K Q hK;clear hcl hJ;obtain ⟨A,hA,v1⟩:=evA1 (n:=59) e1 (by decide);rw [hA] at hK⊢;clear hA hy hp;go_simp;exact hK _ _ ⟨Kq.refl _ _,fun _=>rfl,hJ3.out⟩
     ·have e1:y 48=.pointer (some ⟨g,0,none⟩):=(hp.out 1 (by decide)).2 (by decide);have hJ3:=Lib.hid (hJ.pure (show (11:Nat)≠2 by decide));intro K Q hK;clear hcl hJ;obtain ⟨A,hA,v1⟩:=evA1 (n:=59) e1 (by decide);rw [hA] at hK⊢;clear hA hy hp;go_simp;exact hK _ _ ⟨Kq.refl _ _,fun _=>rfl,hJ3.out⟩
     ·have e1:y 49=.pointer (some ⟨g,0,none⟩):=(hp.out 2 (by decide)).2 (by decide);have hJ3:=Lib.hid (hJ.pure (show (11:Nat)≠3 by decide));intro K Q hK;clear hcl hJ;obtain ⟨A,hA,v1⟩:=evA1 (n:=59) e1 (by decide);rw [hA] at hK⊢;clear hA hy hp;go_simp;exact hK _ _ ⟨Kq.refl _ _,fun _=>rfl,hJ3.out⟩
     ·have e1:y 50=.pointer (some ⟨g,9,none⟩):=(hp.out 3 (by decide)).2 (by decide);have hLj:L 11=false:=by
       cases h:L 11 with
       | false=>rfl
       | true=>have:=(hcl 11 _ rfl h 4 (by decide));rw [hL] at this;cases this
      have hP:=Lib.hid (hJ.p0 hLj);have q9:w9.cell? ⟨g,9,none⟩=some (.slice xa xn xc):=(show Blk w9 g _ _ from (by have h9:=hP.out;rw [hP4] at h9;exact h9.1.box)).cell 9;have hJ3:=Lib.hid (hJ.pure (show (11:Nat)≠4 by decide));intro K Q hK;clear hcl hJ;obtain ⟨A,hA,v1⟩:=evA1 (n:=59) e1 (by decide);rw [hA] at hK⊢;clear hA hy hp;go_simp;exact hK _ _ ⟨Kq.refl _ _,fun _=>rfl,hJ3.out⟩
     ·have e1:y 0=.pointer (some ⟨g,0,none⟩):=hy.out 0 (by decide);have hJ3:=Lib.hid (hJ.pure (show (11:Nat)≠5 by decide));intro K Q hK;clear hcl hJ;obtain ⟨A,hA,v1⟩:=evA1 (n:=59) e1 (by decide);rw [hA] at hK⊢;clear hA hy hp;go_simp;exact hK _ _ ⟨Kq.refl _ _,fun _=>rfl,hJ3.out⟩
     ·have e1:y 52=.pointer (some ⟨g,0,none⟩):=(hp.out 5 (by decide)).2 (by decide);have hJ3:=Lib.hid (hJ.pure (show (11:Nat)≠6 by decide));intro K Q hK;clear hcl hJ;obtain ⟨A,hA,v1⟩:=evA1 (n:=59) e1 (by decide);rw [hA] at hK⊢;clear hA hy hp;go_simp;exact hK _ _ ⟨Kq.refl _ _,fun _=>rfl,hJ3.out⟩
     ·have e1:y 53=.pointer (some ⟨g,0,none⟩):=(hp.out 6 (by decide)).2 (by decide);have hJ3:=Lib.hid (hJ.pure (show (11:Nat)≠7 by decide));intro K Q hK;clear hcl hJ;obtain ⟨A,hA,v1⟩:=evA1 (n:=59) e1 (by decide);rw [hA] at hK⊢;clear hA hy hp;go_simp;exact hK _ _ ⟨Kq.refl _ _,fun _=>rfl,hJ3.out⟩
     ·have e1:y 54=.pointer (some ⟨g,0,none⟩):=(hp.out 7 (by decide)).2 (by decide);have hJ3:=Lib.hid (hJ.pure (show (11:Nat)≠8 by decide));intro K Q hK;clear hcl hJ;obtain ⟨A,hA,v1⟩:=evA1 (n:=59) e1 (by decide);rw [hA] at hK⊢;clear hA hy hp;go_simp;exact hK _ _ ⟨Kq.refl _ _,fun _=>rfl,hJ3.out⟩
     ·have e1:y 55=.pointer (some ⟨g,8,none⟩):=(hp.out 8 (by decide)).2 (by decide);have hLj:L 11=false:=by
       cases h:L 11 with
       | false=>rfl
       | true=>have:=(hcl 10 _ rfl (hcl 11 _ rfl h 10 (by decide)) 9 (by decide));rw [hL] at this;cases this
      have hP:=Lib.hid (hJ.p0 hLj);have q8:w9.cell? ⟨g,8,none⟩=some (.slice sya syn syc):=(show Blk w9 g _ _ from (by have h9:=hP.out;rw [hP4] at h9;exact h9.1.box)).cell 8;have hJ3:=Lib.hid (hJ.pure (show (11:Nat)≠9 by decide));intro K Q hK;clear hcl hJ;obtain ⟨A,hA,v1⟩:=evA1 (n:=59) e1 (by decide);rw [hA] at hK⊢;clear hA hy hp;go_simp;exact hK _ _ ⟨Kq.refl _ _,fun _=>rfl,hJ3.out⟩
     ·have e1:y 56=.slice sya syn syc:=(hp.out 9 (by decide)).2 (by decide);have hJ3:=Lib.hid (hJ.pure (show (11:Nat)≠10 by decide));intro K Q hK;clear hcl hJ;obtain ⟨A,hA,v1⟩:=evA1 (n:=59) e1 (by decide);rw [hA] at hK⊢;clear hA hy hp;go_simp;exact hK _ _ ⟨Kq.refl _ _,fun _=>rfl,hJ3.out⟩
     ·have e1:y 51=.slice xa xn xc:=(hp.out 4 (by decide)).2 (by decide);have e2:y 57=.int .i64 syn:=(hp.out 10 (by decide)).2 (by decide);have hP:=Lib.hid (hJ.p0 hL);have hst4:=hP.out;rw [hP4] at hst4;have hlt4:=hst4.1.lt;intro K Q hK;clear hcl hJ;obtain ⟨A,hA,v1,v2⟩:=evA2 (n:=59) e1 e2 (by decide) (by decide);rw [hA] at hK⊢;clear hA hy hp;go_simp;go_at_call 106
      refine (HCK.out _ hst4.1).mono ?_;rintro r w7 ⟨rfl,hb7⟩;have hk7:Kq g w9 w7:=Kq.later (Nat.le_of_lt hlt4) hb7;exact hK _ _ ⟨hk7,fun _=>rfl,Jo.second (by rw [hP4];exact ⟨hst4.1.later hb7,hst4.2.trans hk7⟩)⟩
     ·have e1:y 58=.int .i64 (checkL BL (m.m.sy.length:Int)):=(hp.out 11 (by decide)).2 (by decide);have hJ3:=Lib.hid (hJ.pure (show (11:Nat)≠12 by decide));intro K Q hK;clear hcl hJ;obtain ⟨A,hA,v1⟩:=evA1 (n:=59) e1 (by decide);rw [hA] at hK⊢;clear hA hy hp;go_simp;exact hK _ _ ⟨Kq.refl _ _,fun _=>rfl,hJ3.out⟩
   ·have hz:=HZ3.out;rw [if_pos hbe] at hz;subst hz;have hbb:(be != 0)=true:=by rw [bne_iff_ne];exact hbe
    go_wp2;go_ret;exact ⟨rfl,fun e=>absurd e hbe,HKS.out⟩
  ·have hz:=HZ2.out;rw [if_pos hte] at hz;subst hz;have hteb:(te != 0)=true:=by rw [bne_iff_ne];exact hte
   go_wp2;go_ret;exact ⟨rfl,fun e=>absurd e hte,HKQ.out⟩
 case steps5=>
  refine ⟨?_,?_,?_,?_,?_,?_,?_,?_,?_,?_,?_,?_,?_,?_,?_,?_,?_,trivial⟩;all_goals intro L y w9 hJ hL hy0 hp0 hcl hun
  all_goals have hy:=Lib.hid hy0
  all_goals have hp:=Lib.hid hp0
  all_goals clear hy0 hp0 hun
  ·have e1:y 0=.pointer (some ⟨g,0,none⟩):=hy.out 0 (by decide);have hJ3:=Lib.hid (hJ.pure (show (11:Nat)≠0 by decide));intro K Q hK;clear hcl hJ;obtain ⟨A,hA,v1⟩:=evA1 (n:=59) e1 (by decide);rw [hA] at hK⊢;clear hA hy hp;go_simp;exact hK _ _ ⟨Kq.refl _ _,fun _=>rfl,hJ3.out⟩
  ·have e1:y 0=.pointer (some ⟨g,0,none⟩):=hy.out 0 (by decide);have hJ3:=Lib.hid (hJ.pure (show (11:Nat)≠1 by decide));intro K Q hK;clear hcl hJ;obtain ⟨A,hA,v1⟩:=evA1 (n:=59) e1 (by decide);rw [hA] at hK⊢;clear hA hy hp;go_simp;exact hK _ _ ⟨Kq.refl _ _,fun _=>rfl,hJ3.out⟩
  ·have e1:y 19=.pointer (some ⟨g,0,none⟩):=(hp.out 1 (by decide)).2 (by decide);have hJ3:=Lib.hid (hJ.pure (show (11:Nat)≠2 by decide));intro K Q hK;clear hcl hJ;obtain ⟨A,hA,v1⟩:=evA1 (n:=59) e1 (by decide);rw [hA] at hK⊢;clear hA hy hp;go_simp;exact hK _ _ ⟨Kq.refl _ _,fun _=>rfl,hJ3.out⟩
  ·have e1:y 20=.pointer (some ⟨g,0,none⟩):=(hp.out 2 (by decide)).2 (by decide);have hJ3:=Lib.hid (hJ.pure (show (11:Nat)≠3 by decide));intro K Q hK;clear hcl hJ;obtain ⟨A,hA,v1⟩:=evA1 (n:=59) e1 (by decide);rw [hA] at hK⊢;clear hA hy hp;go_simp;exact hK _ _ ⟨Kq.refl _ _,fun _=>rfl,hJ3.out⟩
  ·have e1:y 21=.pointer (some ⟨g,12,none⟩):=(hp.out 3 (by decide)).2 (by decide);have hJ3:=Lib.hid (hJ.pure (show (11:Nat)≠4 by decide));intro K Q hK;clear hcl hJ;obtain ⟨A,hA,v1⟩:=evA1 (n:=59) e1 (by decide);rw [hA] at hK⊢;clear hA hy hp;go_simp;exact hK _ _ ⟨Kq.refl _ _,fun _=>rfl,hJ3.out⟩
  ·have e1:y 22=.pointer (some ⟨g,18,none⟩):=(hp.out 4 (by decide)).2 (by decide);have hLj:L 11=false:=by
    cases h:L 11 with
    | false=>rfl
    | true=>have:=(hcl 11 _ rfl h 5 (by decide));rw [hL] at this;cases this
   have hP:=Lib.hid (hJ.p0 hLj);have q18:w9.cell? ⟨g,18,none⟩=some (.int .u64 m.rt):=(HPB.out _ hP.out).cell 18;have hJ3:=Lib.hid (hJ.pure (show (11:Nat)≠5 by decide));intro K Q hK;clear hcl hJ;obtain ⟨A,hA,v1⟩:=evA1 (n:=59) e1 (by decide);rw [hA] at hK⊢;clear hA hy hp;go_simp;exact hK _ _ ⟨Kq.refl _ _,fun _=>rfl,hJ3.out⟩
  ·have e1:y 0=.pointer (some ⟨g,0,none⟩):=hy.out 0 (by decide);have hJ3:=Lib.hid (hJ.pure (show (11:Nat)≠6 by decide));intro K Q hK;clear hcl hJ;obtain ⟨A,hA,v1⟩:=evA1 (n:=59) e1 (by decide);rw [hA] at hK⊢;clear hA hy hp;go_simp;exact hK _ _ ⟨Kq.refl _ _,fun _=>rfl,hJ3.out⟩
  ·have e1:y 24=.pointer (some ⟨g,0,none⟩):=(hp.out 6 (by decide)).2 (by decide);have hJ3:=Lib.hid (hJ.pure (show (11:Nat)≠7 by decide));intro K Q hK;clear hcl hJ;obtain ⟨A,hA,v1⟩:=evA1 (n:=59) e1 (by decide);rw [hA] at hK⊢;clear hA hy hp;go_simp;exact hK _ _ ⟨Kq.refl _ _,fun _=>rfl,hJ3.out⟩
  ·have e1:y 25=.pointer (some ⟨g,0,none⟩):=(hp.out 7 (by decide)).2 (by decide);have hJ3:=Lib.hid (hJ.pure (show (11:Nat)≠8 by decide));intro K Q hK;clear hcl hJ;obtain ⟨A,hA,v1⟩:=evA1 (n:=59) e1 (by decide);rw [hA] at hK⊢;clear hA hy hp;go_simp;exact hK _ _ ⟨Kq.refl _ _,fun _=>rfl,hJ3.out⟩
  ·have e1:y 26=.pointer (some ⟨g,12,none⟩):=(hp.out 8 (by decide)).2 (by decide);have hJ3:=Lib.hid (hJ.pure (show (11:Nat)≠9 by decide));intro K Q hK;clear hcl hJ;obtain ⟨A,hA,v1⟩:=evA1 (n:=59) e1 (by decide);rw [hA] at hK⊢;clear hA hy hp;go_simp;exact hK _ _ ⟨Kq.refl _ _,fun _=>rfl,hJ3.out⟩
  ·have e1:y 27=.pointer (some ⟨g,19,none⟩):=(hp.out 9 (by decide)).2 (by decide);have hLj:L 11=false:=by
    cases h:L 11 with
    | false=>rfl
    | true=>have:=(hcl 11 _ rfl h 10 (by decide));rw [hL] at this;cases this
   have hP:=Lib.hid (hJ.p0 hLj);have q19:w9.cell? ⟨g,19,none⟩=some (.int .u64 m.rz):=(HPB.out _ hP.out).cell 19;have hJ3:=Lib.hid (hJ.pure (show (11:Nat)≠10 by decide));intro K Q hK;clear hcl hJ;obtain ⟨A,hA,v1⟩:=evA1 (n:=59) e1 (by decide);rw [hA] at hK⊢;clear hA hy hp;go_simp;exact hK _ _ ⟨Kq.refl _ _,fun _=>rfl,hJ3.out⟩
  ·have e1:y 18=.pointer (some ⟨g,0,none⟩):=(hp.out 0 (by decide)).2 (by decide);have e2:y 23=.int .u64 m.rt:=(hp.out 5 (by decide)).2 (by decide);have e3:y 28=.int .u64 m.rz:=(hp.out 10 (by decide)).2 (by decide);have hP:=Lib.hid (hJ.p0 hL);intro K Q hK;clear hcl hJ;obtain ⟨A,hA,v1,v2,v3⟩:=evA3 (n:=59) e1 e2 e3 (by decide) (by decide) (by decide);rw [hA] at hK⊢;clear hA hy hp;go_simp;go_at_call 100
   refine (HPC.out _ hP.out).mono ?_;rintro r w7 ⟨⟨u,rfl,ho⟩,hp7,hk7⟩;exact hK _ _ ⟨hk7,fun _=>⟨u,rfl,ho⟩,Jo.second hp7⟩
  ·have e1:(OwE (g+1) 5 1 tn (TL.map (Value.int .u8)) te) (y 29) w9:=(hp.out 11 (by decide)).2 (by decide);obtain ⟨u1,hv1,ho1⟩:=e1;have hJ3:=Lib.hid (hJ.pure (show (11:Nat)≠12 by decide));intro K Q hK;clear hcl hJ;obtain ⟨A,hA,v1⟩:=evA1 (n:=59) hv1 (by decide);rw [hA] at hK⊢;clear hA hy hp;go_simp;exact hK _ _ ⟨Kq.refl _ _,fun _=>⟨_,rfl,ho1⟩,hJ3.out⟩
  ·have e1:(OwE (g+1) 5 1 tn (TL.map (Value.int .u8)) te) (y 17) w9:=(hp.out 12 (by decide)).2 (by decide);obtain ⟨u1,hv1,ho1⟩:=e1;have hJ3:=Lib.hid (hJ.pure (show (11:Nat)≠13 by decide));intro K Q hK;clear hcl hJ;obtain ⟨A,hA,v1⟩:=evA1 (n:=59) hv1 (by decide);rw [hA] at hK⊢;clear hA hy hp;go_simp;exact hK _ _ ⟨Kq.refl _ _,fun _=>ho1,hJ3.out⟩
  ·have e1:(OwE (g+1) 5 1 tn (TL.map (Value.int .u8)) te) (y 17) w9:=(hp.out 12 (by decide)).2 (by decide);obtain ⟨u1,hv1,ho1⟩:=e1;have hJ3:=Lib.hid (hJ.pure (show (11:Nat)≠14 by decide));intro K Q hK;clear hcl hJ;obtain ⟨A,hA,v1⟩:=evA1 (n:=59) hv1 (by decide);rw [hA] at hK⊢;clear hA hy hp;go_simp;exact hK _ _ ⟨Kq.refl _ _,fun _=>rfl,hJ3.out⟩
  ·have e1:(Ow (g+1) 5 1 tn (TL.map (Value.int .u8))) (y 30) w9:=(hp.out 13 (by decide)).2 (by decide);have hv1:y 30=y 30:=rfl;have hJ3:=Lib.hid (hJ.pure (show (11:Nat)≠15 by decide));intro K Q hK;clear hcl hJ;obtain ⟨A,hA,v1⟩:=evA1 (n:=59) hv1 (by decide);rw [hA] at hK⊢;clear hA hy hp;go_simp;exact hK _ _ ⟨Kq.refl _ _,fun _=>e1,hJ3.out⟩
  ·have e1:y 31=.int .i64 te:=(hp.out 14 (by decide)).2 (by decide);have hJ3:=Lib.hid (hJ.pure (show (11:Nat)≠16 by decide));intro K Q hK;clear hcl hJ;obtain ⟨A,hA,v1⟩:=evA1 (n:=59) e1 (by decide);rw [hA] at hK⊢;clear hA hy hp;go_simp;exact hK _ _ ⟨Kq.refl _ _,fun _=>rfl,hJ3.out⟩
theorem k5_setB_noughts (x:Int) (n:Nat):setB (List.replicate n 0) 0 x n=digs x n:=by
 simp [setB,List.drop_eq_nil_of_le]
theorem k5_replicate_map (n:Nat):List.replicate n (Value.int .u8 0)=(List.replicate n (0:Int)).map (Value.int .u8):=by
 rw [List.map_replicate]
theorem num8_ok (x:Int) (w:World) (x0:0≤x) (x1:x≤18446744073709551615) :
 Calls Tryz.prog 155 #[.int .u64 x] w fun r w'=>(∃g c,r=.returned (.slice (some ⟨g,0,none⟩) 8 c)∧Bys w' w'.heap.size (some ⟨g,0,none⟩) 8 (digs x 8))∧Below w.heap.size w w':=by
 obtain ⟨i0,hi,hz0,hz1,hz2⟩:=info_parts info_u8;have HI:=Lib.hid hi;have HZ0:=Lib.hid hz0;have HZ1:=Lib.hid hz1;have HZ2:=Lib.hid hz2;clear hi hz0 hz1 hz2;go_enter Tryz.func155,Tryz.ntmps155
 go_wp2_with (at_make;refine wpList_make_full _ rfl _ _ 22 rfl w.heap.size 5 i0 (.int .u8 0) 1 Tryz.underlying22 HI.out HZ0.out HZ1.out .i64 .i64 _ _ 8 rfl rfl rfl rfl ?c1 ?c2 ?c3 ?_);case c1=>rw [HZ2.out];omega
 case c2=>unfold maxLen;omega
 case c3=>exact Nat.le_refl _
 intro w1 hown hg;have hb1:Below w.heap.size w w1:=(Below.refl _ _).grown hg (Nat.le_refl _) (fun _ e=>by cases e);rw [toList_madeCells_one,k5_replicate_map] at hown;have HBY:=Lib.hid (Bys.own (zs:=List.replicate 8 0) (fun m hm=>by rw [List.eq_of_mem_replicate hm];omega) hown);clear hown hg;go_wp2_with fail;refine (set_ok _ _ _ _ (List.replicate 8 0) 0 8 x _ HBY.out (Nat.le_refl _) (by decide) (by omega) (by omega) x0 x1).mono ?_;rintro e w2 ⟨rfl,hown,hb2⟩;rw [k5_setB_noughts] at hown;have HB:Hid (Bys w2 w2.heap.size (some ⟨w1.heap.size,0,none⟩) 8 (digs x 8)):=Lib.hid (Bys.own (digs_bd x 8) hown);have hbb:=hb1.trans (hb2.mono hb1.size);clear hown hb1 hb2;go_wp2;go_ret;exact ⟨⟨_,_,rfl,HB.out⟩,hbb⟩
theorem add_ok (base:Nat) (v:Value) (m:Nat) (zs:List Int) (x y:Int) (w:World) (ho:w.ownsRow base 5 1 v m (zs.map (Value.int .u8))) (hbase:base≤w.heap.size) (hm:m≤1000000) (x0:0≤x) (x1:x≤18446744073709551615) (y0:0≤y) (y1:y≤18446744073709551615) :
 Calls Tryz.prog 123 #[v,.int .u64 x,.int .u64 y] w fun r w'=>∃v',r=.returned v'∧w'.ownsRow base 5 1 v' (m+16) ((zs++entB (x,y)).map (Value.int .u8))∧Below base w w':=by
 obtain ⟨i0,hi,hz0,hz1,hz2⟩:=info_parts info_u8;have HO:=Lib.hid ho;have HI:=Lib.hid hi;have HZ0:=Lib.hid hz0;have HZ1:=Lib.hid hz1;have HZ2:=Lib.hid hz2;clear ho hi hz0 hz1 hz2;go_enter Tryz.func123,Tryz.ntmps123
 go_wp2_with fail;refine (num8_ok x _ x0 x1).mono ?_;rintro r w1 ⟨⟨g,c,rfl,hby⟩,hb1⟩;have HO1:=Lib.hid (own_below HO.out hb1);have HBY:=Lib.hid hby;have HB1:=Lib.hid (hb1.mono hbase);clear hby hb1;go_wp2_with (at_builtin;refine wpList_append_bys rfl _ _ 22 rfl base 5 i0 (.int .u8 0) 1 Tryz.underlying22 HI.out HZ0.out HZ1.out HZ2.out rfl _ m _ rfl HO1.out _ 8 c _ (digs x 8) rfl HBY.out (fun h=>by cases h) ?c1 ?c2 ?c3 ?_);case c1=>unfold maxLen;omega
 case c2=>omega
 case c3=>exact Nat.le_trans hbase HB1.out.size
 intro v2 w2 ho2 hg2;have hb2:=HB1.out.grown hg2 (Nat.le_trans hbase HB1.out.size) (fun q e=>(HO1.out.lt q e).1);have HO2:Hid (w2.ownsRow base 5 1 v2 (m+8) ((zs++digs x 8).map (Value.int .u8))):=Lib.hid (by simpa only [List.map_append] using ho2);have HB2:=Lib.hid hb2;have hs2:=hb2.size;clear ho2 hg2 hb2;go_wp2_with fail;refine (num8_ok y _ y0 y1).mono ?_;rintro r w3 ⟨⟨g3,c3,rfl,hby⟩,hb3⟩;have HO3:=Lib.hid (own_below HO2.out hb3);have HBY3:=Lib.hid hby;have HB3:=Lib.hid (HB2.out.trans (hb3.mono (Nat.le_trans hbase hs2)));clear hby hb3;go_wp2_with (at_builtin;refine wpList_append_bys rfl _ _ 22 rfl base 5 i0 (.int .u8 0) 1 Tryz.underlying22 HI.out HZ0.out HZ1.out HZ2.out rfl _ (m+8) _ rfl HO3.out _ 8 c3 _ (digs y 8) rfl HBY3.out (fun h=>by cases h) ?d1 ?d2 ?d3 ?_);case d1=>unfold maxLen;omega
 case d2=>omega
 case d3=>exact Nat.le_trans hbase HB3.out.size
 intro v4 w4 ho4 hg4;have hb4:=HB3.out.grown hg4 (Nat.le_trans hbase HB3.out.size) (fun q e=>(HO3.out.lt q e).1);have HO4:Hid (w4.ownsRow base 5 1 v4 (m+16) ((zs++entB (x,y)).map (Value.int .u8))):=Lib.hid (by
  simpa only [List.map_append,List.append_assoc,Nat.add_assoc,entB] using ho4)
 clear ho4 hg4;go_wp2;go_ret;exact ⟨_,rfl,HO4.out,hb4⟩
theorem k5_read_ok (B:Nat) (a:Option Addr) (len cap:Nat) (zs:List Int) (p:Nat) (w:World) (hb:Bys w B a len zs) (hl:(len:Int)≤9223372036854775807) (hs:p+8≤len) :
 Calls Tryz.prog 97 #[.slice a len cap,.int .u64 p] w fun e w'=>e=.returned (.int .u64 (num (piece zs p 8)))∧w=w':=by
 have HB:=Lib.hid hb;clear hb;go_enter Tryz.func97,Tryz.ntmps97
 go_wp2_with (go_at_call 131;refine (get_ok _ _ _ _ _ p 8 _ HB.out (by decide) hl hs).mono ?_;rintro e w' ⟨rfl,rfl⟩);go_ret;exact ⟨rfl,rfl⟩
end Go.Proofs.YtclgbdfkdbbinaaGreat
namespace Go.Proofs.YtclgbdfkdbbinaaGreat
open Go.RowKit Go.WideMaps Go.Maps
theorem law_u64:Keyed Tryz.prog 24:=int_keyed Tryz.underlying24
theorem zero_ptr (w:World):(zeroValue 190).run Tryz.prog w=.ok (.pointer none) w:=by kernel_rfl
def keyU (t:Int):Lit:=.int .u64 t
theorem key_u64 {t:Int} (h:0≤t∧t≤18446744073709551615):keyOf Tryz.prog 24 (.int .u64 t)=some (keyU t):=
 keyOf_int_mk Tryz.underlying24 (by simp [Lit.wf,IntKind.min,IntKind.max,IntKind.signed,IntKind.bits];omega)
theorem isKeyU (t:Int):WideAt.IsKeyLit (keyU t):=by simp [keyU,WideAt.IsKeyLit]
theorem keyU_ne {s t:Int} (h:s≠t):keyU s≠keyU t:=fun e=>by
 unfold keyU at e;injection e with _ e;exact h e
def placeR (X:Nat):Value→Option (DataW Unit×List MemPlace)
 | .pointer none=>some (.lit (.bool false),[])
 | .pointer (some ⟨b,o,none⟩)=>if b=X then some (.lit (.int .u64 o),[]) else none
 | _=>none
theorem placeR_nil (X:Nat):placeR X (.pointer none)=some (.lit (.bool false),[]):=rfl
theorem placeR_at (X o:Nat):placeR X (.pointer (some ⟨X,o,none⟩))=some (.lit (.int .u64 o),[]):=by simp [placeR]
theorem placeR_inv_nil {X:Nat} {v:Value} {ps:List MemPlace} (h:placeR X v=some (.lit (.bool false),ps)):v=.pointer none:=by
 unfold placeR at h;split at h
 ·rfl
 ·split at h
  ·injection h with h;injection h with h _;injection h with h;cases h
  ·cases h
 ·cases h
theorem placeR_inv_at {X:Nat} {v:Value} {ps:List MemPlace} {o:Nat} (h:placeR X v=some (.lit (.int .u64 o),ps)):v=.pointer (some ⟨X,o,none⟩):=by
 unfold placeR at h;split at h
 ·injection h with h;injection h with h _;injection h with h;cases h
 ·split at h
  ·rename_i b o' hb;subst hb;injection h with h;injection h with h _;injection h with h;injection h with _ h;have:o'=o:=by omega
   subst this;rfl
  ·cases h
 ·cases h
def PartD (D:DataW Unit) (S:Nat→Bool):Prop:=
 ∀t:Int,Maps.has D (keyU t)=(match idxD t with | some i=>S i | none=>false)∧∀i,idxD t=some i→S i=true→∀z,D.atKey (keyU t) z=.lit (.int .u64 ((i+1:Nat):Int))
theorem partD_zero {S:Nat→Bool} (h:∀i,i<7→S i=false):PartD (.map []) S:=by
 intro t;cases hi:idxD t with
 | none=>exact ⟨rfl,fun i h=>by cases h⟩
 | some i=>
   have:=h i (idxD_lt hi).1;exact ⟨by simp only [this];rfl,fun j hj hs=>by injection hj with hj;subst hj;rw [this] at hs;cases hs⟩
theorem partD_put {D:DataW Unit} {S S':Nat→Bool} {i:Nat} (hi:i<7) (hm:IsMap D) (h:PartD D S) (h1:S' i=true) (h2:∀j,j<7→j≠i→S' j=S j):PartD (D.put (keyU (tagsD.getD i 0)) (.lit (.int .u64 ((i+1:Nat):Int)))) S':=by
 intro t;by_cases ht:t=tagsD.getD i 0
 ·subst ht;rw [idxD_tag hi];refine ⟨by simp only [h1];rw [has_put_same hm (isKeyU _)],fun j hj hs z=>?_⟩;injection hj with hj;subst hj;exact atKey_put_same hm (isKeyU _) _ _
 ·have hne:=keyU_ne ht;obtain ⟨q1,q2⟩:=h t;have hji:∀j,idxD t=some j→j≠i∧j<7:=fun j hj=>⟨fun e=>ht (by rw [←e];exact (idxD_lt hj).2.symm),(idxD_lt hj).1⟩
  refine ⟨?_,fun j hj hs z=>?_⟩
  ·rw [has_put_other hne,q1];cases hj:idxD t with
   | none=>rfl
   | some j=>obtain ⟨r1,r2⟩:=hji j hj;simp only;rw [h2 j r2 r1]
  ·obtain ⟨r1,r2⟩:=hji j hj;rw [atKey_put_other hne];exact q2 j hj (by rw [←h2 j r2 r1];exact hs) z
def AllD (D:DataW Unit) (seen:List Bool):Prop:=
 ∀t:Int,Maps.has D (keyU t)=(idxD t).isSome∧∀i,idxD t=some i→∀z,D.atKey (keyU t) z=if seen.getD i false=true then .lit (.bool false) else .lit (.int .u64 ((i+1:Nat):Int))
theorem allD_zero {D:DataW Unit} {S:Nat→Bool} (h:PartD D S) (hs:∀i,i<7→S i=true):AllD D stD0.seen:=by
 intro t;obtain ⟨q1,q2⟩:=h t;refine ⟨?_,fun i hi z=>?_⟩
 ·rw [q1];cases hi:idxD t with
  | none=>rfl
  | some i=>exact hs i (idxD_lt hi).1
 ·have hi7:=(idxD_lt hi).1;have hf:stD0.seen.getD i false=false:=by
   have:i=0∨i=1∨i=2∨i=3∨i=4∨i=5∨i=6:=by omega
   rcases this with rfl | rfl | rfl | rfl | rfl | rfl | rfl<;>rfl
  rw [hf,if_neg (by decide)];exact q2 i hi (hs i hi7) z
theorem allD_put {D:DataW Unit} {seen:List Bool} {i:Nat} (hi:i<7) (hm:IsMap D) (hl:seen.length=7) (h:AllD D seen):AllD (D.put (keyU (tagsD.getD i 0)) (.lit (.bool false))) (seen.set i true):=by
 intro t;by_cases ht:t=tagsD.getD i 0
 ·subst ht;rw [idxD_tag hi];refine ⟨by rw [has_put_same hm (isKeyU _)];rfl,fun j hj z=>?_⟩;injection hj with hj;subst hj;rw [atKey_put_same hm (isKeyU _)];have:(seen.set i true).getD i false=true:=by rw [List.getD_eq_getElem?_getD,List.getElem?_set_self (by omega)];rfl
  rw [if_pos this]
 ·have hne:=keyU_ne ht;obtain ⟨q1,q2⟩:=h t;refine ⟨by rw [has_put_other hne,q1],fun j hj z=>?_⟩;have hji:i≠j:=fun e=>ht (by rw [e];exact (idxD_lt hj).2.symm);rw [atKey_put_other hne,q2 j hj z];have:(seen.set i true).getD j false=seen.getD j false:=by rw [List.getD_eq_getElem?_getD,List.getElem?_set_ne hji,List.getD_eq_getElem?_getD]
  rw [this]
def FieldsM (w:World) (g X n:Nat) (seen:List Bool):Prop:=∃D,w.ownsMap Tryz.prog 24 (placeR X) g n D∧AllD D seen
theorem FieldsM.lt {w:World} {g X n:Nat} {seen:List Bool} (h:FieldsM w g X n seen):g<w.heap.size:=by
 obtain ⟨D,h,_⟩:=h;exact h.lt
theorem FieldsM.look {w:World} {g X n:Nat} {seen:List Bool} (h:FieldsM w g X n seen) {t:Int} (ht:0≤t∧t≤18446744073709551615) :
 (idxD t=none→∃v,(Instr.lookup 151 (.map (some g)) (.int .u64 t) true).run Tryz.prog w=.ok (.tuple #[v,.bool false]) w)∧
 (∀i,idxD t=some i→(Instr.lookup 151 (.map (some g)) (.int .u64 t) true).run Tryz.prog w=.ok (.tuple #[if seen.getD i false=true then .pointer none else .pointer (some ⟨X,i+1,none⟩),.bool true]) w):=by
 obtain ⟨D,ho,hD⟩:=h;obtain ⟨v,ps,hr,hv⟩:=ho.look_ok law_u64 Tryz.underlying151 (zero_ptr w) (placeR_nil X) (key_u64 ht);obtain ⟨q1,q2⟩:=hD t;rw [q1] at hr;refine ⟨fun hi=>⟨v,by rw [hr,hi];rfl⟩,fun i hi=>?_⟩;rw [hr,hi];rw [q2 i hi] at hv;by_cases hs:seen.getD i false=true
 ·rw [if_pos hs] at hv⊢;rw [placeR_inv_nil hv];rfl
 ·rw [if_neg hs] at hv⊢;rw [placeR_inv_at hv];rfl
theorem FieldsM.look1 {w:World} {g X n:Nat} {seen:List Bool} (h:FieldsM w g X n seen) {i:Nat} (hi:i<7) :
 (Instr.lookup 151 (.map (some g)) (.int .u64 (tagsD.getD i 0)) false).run Tryz.prog w=.ok (if seen.getD i false=true then .pointer none else .pointer (some ⟨X,i+1,none⟩)) w:=by
 obtain ⟨D,ho,hD⟩:=h;have ht:=tagsD_pos hi;obtain ⟨v,ps,hr,hv⟩:=ho.lookup law_u64 Tryz.underlying151 (zero_ptr w) (placeR_nil X) (key_u64 ht.2.2);obtain ⟨q1,q2⟩:=hD (tagsD.getD i 0);rw [hr];rw [q2 i (idxD_tag hi)] at hv;by_cases hs:seen.getD i false=true
 ·rw [if_pos hs] at hv⊢;rw [placeR_inv_nil hv]
 ·rw [if_neg hs] at hv⊢;rw [placeR_inv_at hv]
theorem FieldsM.mark {w:World} {g X n:Nat} {seen:List Bool} (h:FieldsM w g X n seen) (hn:n<maxLen) {i:Nat} (hi:i<7) (hl:seen.length=7) :
 ∃w',(Instr.mapUpdate 151 (.map (some g)) (.int .u64 (tagsD.getD i 0)) (.pointer none)).run Tryz.prog w=.ok () w'∧FieldsM w' g X (n+1) (seen.set i true)∧w.grownBy w' (some g):=by
 obtain ⟨D,ho,hD⟩:=h;have ht:=tagsD_pos hi;obtain ⟨w',hr,ho',hg⟩:=ho.update law_u64 Tryz.underlying151 hn (key_u64 ht.2.2) (placeR_nil X);exact ⟨w',hr,⟨_,ho',allD_put hi ho.isMap hl hD⟩,hg⟩
def insD (i:Nat):Nat:=([24,4,20,8,28,12,16]:List Nat).getD i 0
def cntD (L:Nat→Bool):Nat:=(L 24).toNat+(L 4).toNat+(L 20).toNat+(L 8).toNat+(L 28).toNat+(L 12).toNat+(L 16).toNat
theorem cntD_le (L:Nat→Bool):cntD L≤7:=by
 unfold cntD;have:=fun b:Bool=>Bool.toNat_le b;have h1:=this (L 24);have h2:=this (L 4);have h3:=this (L 20);have h4:=this (L 8);have h5:=this (L 28);have h6:=this (L 12);have h7:=this (L 16);omega
def JM (g X:Nat) (W0:World) (L:Nat→Bool) (w:World):Prop:=
 (L 0=false→w=W0∧∀i,i<7→L (insD i)=false)∧(L 0=true→∃D,w.ownsMap Tryz.prog 24 (placeR X) g (cntD L) D∧PartD D (fun i=>L (insD i))∧Below g W0 w)
theorem seven_of {p:Nat→Prop} (h:∀i,i<7→p i):p 0∧p 1∧p 2∧p 3∧p 4∧p 5∧p 6:=
 ⟨h 0 (by decide),h 1 (by decide),h 2 (by decide),h 3 (by decide),h 4 (by decide),h 5 (by decide),h 6 (by decide)⟩
theorem partD_congr {D:DataW Unit} {S S':Nat→Bool} (h:PartD D S) (hs:∀i,i<7→S i=S' i):PartD D S':=by
 intro t;obtain ⟨q1,q2⟩:=h t;refine ⟨?_,fun i hi h1 z=>q2 i hi (by rw [hs i (idxD_lt hi).1];exact h1) z⟩;rw [q1];cases hi:idxD t with
 | none=>rfl
 | some i=>simp only;rw [hs i (idxD_lt hi).1]
theorem JM.congr {g X:Nat} {W0 w:World} {L L':Nat→Bool} (h:JM g X W0 L w) (h0:L 0=L' 0) (hi:∀i,i<7→L (insD i)=L' (insD i)):JM g X W0 L' w:=by
 obtain ⟨p1,p2,p3,p4,p5,p6,p7⟩:=seven_of (p:=fun i=>L (insD i)=L' (insD i)) hi;simp only [insD,List.getD_cons_zero,List.getD_cons_succ] at p1 p2 p3 p4 p5 p6 p7;have hc:cntD L=cntD L':=by unfold cntD;rw [p1,p2,p3,p4,p5,p6,p7]
 refine ⟨fun e=>?_,fun e=>?_⟩
 ·obtain ⟨r1,r2⟩:=h.1 (h0.trans e);exact ⟨r1,fun i h7=>by rw [←hi i h7];exact r2 i h7⟩
 ·obtain ⟨D,r1,r2,r3⟩:=h.2 (h0.trans e);exact ⟨D,hc▸r1,partD_congr r2 hi,r3⟩
theorem JM.pure {g X:Nat} {W0 w:World} {L:Nat→Bool} (h:JM g X W0 L w) {j:Nat} (h0:j≠0) (hj:∀i,i<7→insD i≠j):JM g X W0 (upd L j) w:=
 h.congr (by rw [upd_other _ (Ne.symm h0)]) fun i hi=>by rw [upd_other _ (hj i hi)]
theorem JM.make {g X:Nat} {W0 w:World} {L:Nat→Bool} (h:JM g X W0 L w) (hg:W0.heap.size=g) (h0:L 0=false):.map (some w.heap.size)=Value.map (some g)∧JM g X W0 (upd L 0) (w.alloc (.map #[] 0)):=by
 obtain ⟨rfl,hi⟩:=h.1 h0;subst hg;refine ⟨rfl,⟨fun e=>(by rw [upd_same] at e;cases e),fun _=>⟨.map [],?_,?_,(Below.refl _ _).alloc (Nat.le_refl _) _⟩⟩⟩
 ·exact (World.ownsMap_made w Tryz.prog 24 (placeR X)).mono (Nat.zero_le _)
 ·refine partD_zero fun i h7=>?_;have hne:insD i≠0:=by
   have:i=0∨i=1∨i=2∨i=3∨i=4∨i=5∨i=6:=by omega
   rcases this with rfl | rfl | rfl | rfl | rfl | rfl | rfl<;>decide
  rw [upd_other _ hne];exact hi i h7
theorem insD_inj {i j:Nat} (hi:i<7) (hj:j<7) (h:insD i=insD j):i=j:=by
 have h1:i=0∨i=1∨i=2∨i=3∨i=4∨i=5∨i=6:=by omega
 have h2:j=0∨j=1∨j=2∨j=3∨j=4∨j=5∨j=6:=by omega
 rcases h1 with rfl | rfl | rfl | rfl | rfl | rfl | rfl<;>rcases h2 with rfl | rfl | rfl | rfl | rfl | rfl | rfl<;>first | rfl | (exact absurd h (by decide))
theorem cntD_upd {L:Nat→Bool} {i:Nat} (hi:i<7) (h:L (insD i)=false):cntD (upd L (insD i))=cntD L+1:=by
 have:i=0∨i=1∨i=2∨i=3∨i=4∨i=5∨i=6:=by omega
 rcases this with rfl | rfl | rfl | rfl | rfl | rfl | rfl;all_goals simp only [insD,List.getD_cons_zero,List.getD_cons_succ] at h⊢
 all_goals simp [cntD,upd,h]
 all_goals omega
theorem JM.insert {g X:Nat} {W0 w:World} {L:Nat→Bool} (h:JM g X W0 L w) (hW:W0.heap.size=g) {i:Nat} (hi:i<7) (h0:L 0=true) (hL:L (insD i)=false) :
 ∃w',(Instr.mapUpdate 151 (.map (some g)) (.int .u64 (tagsD.getD i 0)) (.pointer (some ⟨X,i+1,none⟩))).run Tryz.prog w=.ok () w'∧JM g X W0 (upd L (insD i)) w':=by
 obtain ⟨D,ho,hD,hb⟩:=h.2 h0;have ht:=tagsD_pos hi;have hc:=cntD_le L;obtain ⟨w',hr,ho',hg⟩:=ho.update law_u64 Tryz.underlying151 (by unfold maxLen;omega) (key_u64 ht.2.2) (placeR_at X (i+1));have hlt:=ho.lt;have hgs:g≤w.heap.size:=by omega
 have hne:(0:Nat)≠insD i:=by
  have:i=0∨i=1∨i=2∨i=3∨i=4∨i=5∨i=6:=by omega
  rcases this with rfl | rfl | rfl | rfl | rfl | rfl | rfl<;>decide
 refine ⟨w',hr,⟨fun e=>(by rw [upd_other _ hne,h0] at e;cases e),fun _=>⟨_,(cntD_upd hi hL)▸ho',?_,hb.grown hg hgs (fun q e=>by injection e with e;omega)⟩⟩⟩;exact partD_put hi ho.isMap hD (upd_same _ _) fun j hj hji=>upd_other _ fun e=>hji (insD_inj hj hi e)
theorem step_insert {P:Program} {o:Oper} {a:Act} {w w':World} {post:Value→World→Prop} (t:TypeId) (m k v:Operand) (hop:o.op=Op.insert t m k v) (M K V:Value) (hm:a.eval m=M) (hk:a.eval k=K) (hv:a.eval v=V)
 (hr:(Instr.mapUpdate t M K V).run P w=.ok () w') (h:post undef w'):StepFact P o a w post:=by
 intro K' Q hK;have:=hK _ _ h;unfold Oper.wp Oper.upon;simpa [execOp,hop,hm,hk,hv,hr,Result.andThen] using this
theorem step_makeMap {P:Program} {o:Oper} {a:Act} {w:World} {post:Value→World→Prop} (t:TypeId) (hop:o.op=Op.makeMap t none) (h:post (.map (some w.heap.size)) (w.alloc (.map #[] 0))):StepFact P o a w post:=by
 intro K' Q hK;have:=hK _ _ h;unfold Oper.wp Oper.upon;simpa [execOp,hop,Result.andThen,run_makeMap] using this
theorem step_nil {P:Program} {o:Oper} {a:Act} {w:World} {post:Value→World→Prop} (x:Operand) (p:Addr) (hop:o.op=Op.nilCheck x) (hx:a.eval x=.pointer (some p)) (h:post (.pointer (some p)) w):StepFact P o a w post:=by
 intro K' Q hK;have:=hK _ _ h;unfold Oper.wp Oper.upon;simpa [execOp,hop,hx,Result.andThen] using this
theorem k5_eval_frame (n:Nat) (y:Nat→Value) (d:List Deferred) {t:Nat} (h:t<n):(⟨frameOf n y,d⟩:Act).eval (.tmp t)=y t:=by
 simp [Act.eval,frameOf_get _ _ _ h]
theorem fr26 (y:Nat→Value):frameOf 26 y=#[y 0,y 1,y 2,y 3,y 4,y 5,y 6,y 7,y 8,y 9,y 10,y 11,y 12,y 13,y 14,y 15,y 16,y 17,y 18,y 19,y 20,y 21,y 22,y 23,y 24,y 25]:=rfl
theorem insD_not {j:Nat} (h:j≠24∧j≠4∧j≠20∧j≠8∧j≠28∧j≠12∧j≠16):∀i,i<7→insD i≠j:=by
 intro i hi;have:i=0∨i=1∨i=2∨i=3∨i=4∨i=5∨i=6:=by omega
 rcases this with rfl | rfl | rfl | rfl | rfl | rfl | rfl<;>simp only [insD,List.getD_cons_zero,List.getD_cons_succ]<;>omega
theorem insD_bd {i:Nat} (hi:i<7):insD i<31:=by
 have:i=0∨i=1∨i=2∨i=3∨i=4∨i=5∨i=6:=by omega
 rcases this with rfl | rfl | rfl | rfl | rfl | rfl | rfl<;>decide
theorem insD_lt {L L':Nat→Bool} (h:∀i,i<31→L i=L' i):∀i,i<7→L (insD i)=L' (insD i):=fun i hi=>h _ (insD_bd hi)
theorem fieldsOf_any (X:Nat) (w:World) :
 Calls Tryz.prog 96 #[.pointer (some ⟨X,0,none⟩)] w fun r w'=>∃g,r=.returned (.map (some g))∧w.heap.size≤g∧FieldsM w' g X 7 stD0.seen∧Below w.heap.size w w':=by
 go_enter Tryz.func96,Tryz.ntmps96
 go_wp2;refine wp_region_inv (by kernel_rfl) 26 rfl [3,4,5,6,104,7,8,9,108,10,11,12,112,13,14,15,116,16,17,18,120,19,20,21,124,22,23,24,128,25,2] [.map (some w.heap.size),.pointer (some ⟨X,0,none⟩),.pointer (some ⟨X,0,none⟩),.pointer (some ⟨X,2,none⟩),undef,.pointer (some ⟨X,0,none⟩),.pointer (some ⟨X,0,none⟩),.pointer (some ⟨X,4,none⟩),undef,.pointer (some ⟨X,0,none⟩),.pointer (some ⟨X,0,none⟩),.pointer (some ⟨X,6,none⟩),undef,.pointer (some ⟨X,0,none⟩),.pointer (some ⟨X,0,none⟩),.pointer (some ⟨X,7,none⟩),undef,.pointer (some ⟨X,0,none⟩),.pointer (some ⟨X,0,none⟩),.pointer (some ⟨X,3,none⟩),undef,.pointer (some ⟨X,0,none⟩),.pointer (some ⟨X,0,none⟩),.pointer (some ⟨X,1,none⟩),undef,.pointer (some ⟨X,0,none⟩),.pointer (some ⟨X,0,none⟩),.pointer (some ⟨X,5,none⟩),undef,.map (some w.heap.size),.map (some w.heap.size)] (JM w.heap.size X w.drew) ?hj (by kernel_rfl) ?start ?steps ?fin;case hj=>exact fun L L' w' h hJ=>hJ.congr (h 0 (by decide)) (insD_lt h)
 case start=>exact ⟨fun _=>⟨rfl,fun _ _=>rfl⟩,fun h=>by cases h⟩
 case steps=>
  refine ⟨?_,?_,?_,?_,?_,?_,?_,?_,?_,?_,?_,?_,?_,?_,?_,?_,?_,?_,?_,?_,?_,?_,?_,?_,?_,?_,?_,?_,?_,?_,?_,trivial⟩;all_goals intro L y w2 hJ hL hy hp
  ·exact step_makeMap 151 rfl ⟨fun _=>(hJ.make rfl hL).1,(hJ.make rfl hL).2⟩
  ·exact step_move (.tmp 0) (.inl rfl) ⟨fun _=>(k5_eval_frame 26 y _ (by decide)).trans (hy 0 (by decide)),hJ.pure (by decide) (insD_not (by decide))⟩
  ·exact step_nil (.tmp 4) ⟨X,0,none⟩ rfl ((k5_eval_frame 26 y _ (by decide)).trans ((hp 1 (by decide)).2 (by decide))) ⟨fun _=>rfl,hJ.pure (by decide) (insD_not (by decide))⟩
  ·have e1:y 5=.pointer (some ⟨X,0,none⟩):=(hp 2 (by decide)).2 (by decide);have hJ2:=Lib.hid (hJ.pure (by decide) (insD_not (by decide)):JM w.heap.size X w.drew (upd L 3) w2);intro K Q hK;simp only [fr26] at hK⊢;clear hy hp hJ;rw [e1] at hK⊢;go_simp;exact hK _ _ ⟨fun _=>rfl,hJ2.out⟩
  ·obtain ⟨w3,hr,hJ3⟩:=hJ.insert rfl (i:=1) (by decide) (hp 0 (by decide)).1 hL;exact step_insert _ (.tmp 3) (.const (.int .u64 5)) (.tmp 6) rfl _ _ _ ((k5_eval_frame 26 y _ (by decide)).trans ((hp 0 (by decide)).2 (by decide))) rfl ((k5_eval_frame 26 y _ (by decide)).trans ((hp 3 (by decide)).2 (by decide))) hr ⟨fun h=>absurd h (by decide),hJ3⟩
  ·exact step_move (.tmp 0) (.inl rfl) ⟨fun _=>(k5_eval_frame 26 y _ (by decide)).trans (hy 0 (by decide)),hJ.pure (by decide) (insD_not (by decide))⟩
  ·exact step_nil (.tmp 7) ⟨X,0,none⟩ rfl ((k5_eval_frame 26 y _ (by decide)).trans ((hp 5 (by decide)).2 (by decide))) ⟨fun _=>rfl,hJ.pure (by decide) (insD_not (by decide))⟩
  ·have e1:y 8=.pointer (some ⟨X,0,none⟩):=(hp 6 (by decide)).2 (by decide);have hJ2:=Lib.hid (hJ.pure (by decide) (insD_not (by decide)):JM w.heap.size X w.drew (upd L 7) w2);intro K Q hK;simp only [fr26] at hK⊢;clear hy hp hJ;rw [e1] at hK⊢;go_simp;exact hK _ _ ⟨fun _=>rfl,hJ2.out⟩
  ·obtain ⟨w3,hr,hJ3⟩:=hJ.insert rfl (i:=3) (by decide) (hp 0 (by decide)).1 hL;exact step_insert _ (.tmp 3) (.const (.int .u64 6)) (.tmp 9) rfl _ _ _ ((k5_eval_frame 26 y _ (by decide)).trans ((hp 0 (by decide)).2 (by decide))) rfl ((k5_eval_frame 26 y _ (by decide)).trans ((hp 7 (by decide)).2 (by decide))) hr ⟨fun h=>absurd h (by decide),hJ3⟩
  ·exact step_move (.tmp 0) (.inl rfl) ⟨fun _=>(k5_eval_frame 26 y _ (by decide)).trans (hy 0 (by decide)),hJ.pure (by decide) (insD_not (by decide))⟩
  ·exact step_nil (.tmp 10) ⟨X,0,none⟩ rfl ((k5_eval_frame 26 y _ (by decide)).trans ((hp 9 (by decide)).2 (by decide))) ⟨fun _=>rfl,hJ.pure (by decide) (insD_not (by decide))⟩
  ·have e1:y 11=.pointer (some ⟨X,0,none⟩):=(hp 10 (by decide)).2 (by decide);have hJ2:=Lib.hid (hJ.pure (by decide) (insD_not (by decide)):JM w.heap.size X w.drew (upd L 11) w2);intro K Q hK;simp only [fr26] at hK⊢;clear hy hp hJ;rw [e1] at hK⊢;go_simp;exact hK _ _ ⟨fun _=>rfl,hJ2.out⟩
  ·obtain ⟨w3,hr,hJ3⟩:=hJ.insert rfl (i:=5) (by decide) (hp 0 (by decide)).1 hL;exact step_insert _ (.tmp 3) (.const (.int .u64 7)) (.tmp 12) rfl _ _ _ ((k5_eval_frame 26 y _ (by decide)).trans ((hp 0 (by decide)).2 (by decide))) rfl ((k5_eval_frame 26 y _ (by decide)).trans ((hp 11 (by decide)).2 (by decide))) hr ⟨fun h=>absurd h (by decide),hJ3⟩
  ·exact step_move (.tmp 0) (.inl rfl) ⟨fun _=>(k5_eval_frame 26 y _ (by decide)).trans (hy 0 (by decide)),hJ.pure (by decide) (insD_not (by decide))⟩
  ·exact step_nil (.tmp 13) ⟨X,0,none⟩ rfl ((k5_eval_frame 26 y _ (by decide)).trans ((hp 13 (by decide)).2 (by decide))) ⟨fun _=>rfl,hJ.pure (by decide) (insD_not (by decide))⟩
  ·have e1:y 14=.pointer (some ⟨X,0,none⟩):=(hp 14 (by decide)).2 (by decide);have hJ2:=Lib.hid (hJ.pure (by decide) (insD_not (by decide)):JM w.heap.size X w.drew (upd L 15) w2);intro K Q hK;simp only [fr26] at hK⊢;clear hy hp hJ;rw [e1] at hK⊢;go_simp;exact hK _ _ ⟨fun _=>rfl,hJ2.out⟩
  ·obtain ⟨w3,hr,hJ3⟩:=hJ.insert rfl (i:=6) (by decide) (hp 0 (by decide)).1 hL;exact step_insert _ (.tmp 3) (.const (.int .u64 8)) (.tmp 15) rfl _ _ _ ((k5_eval_frame 26 y _ (by decide)).trans ((hp 0 (by decide)).2 (by decide))) rfl ((k5_eval_frame 26 y _ (by decide)).trans ((hp 15 (by decide)).2 (by decide))) hr ⟨fun h=>absurd h (by decide),hJ3⟩
  ·exact step_move (.tmp 0) (.inl rfl) ⟨fun _=>(k5_eval_frame 26 y _ (by decide)).trans (hy 0 (by decide)),hJ.pure (by decide) (insD_not (by decide))⟩
  ·exact step_nil (.tmp 16) ⟨X,0,none⟩ rfl ((k5_eval_frame 26 y _ (by decide)).trans ((hp 17 (by decide)).2 (by decide))) ⟨fun _=>rfl,hJ.pure (by decide) (insD_not (by decide))⟩
  ·have e1:y 17=.pointer (some ⟨X,0,none⟩):=(hp 18 (by decide)).2 (by decide);have hJ2:=Lib.hid (hJ.pure (by decide) (insD_not (by decide)):JM w.heap.size X w.drew (upd L 19) w2);intro K Q hK;simp only [fr26] at hK⊢;clear hy hp hJ;rw [e1] at hK⊢;go_simp;exact hK _ _ ⟨fun _=>rfl,hJ2.out⟩
  ·obtain ⟨w3,hr,hJ3⟩:=hJ.insert rfl (i:=2) (by decide) (hp 0 (by decide)).1 hL;exact step_insert _ (.tmp 3) (.const (.int .u64 10)) (.tmp 18) rfl _ _ _ ((k5_eval_frame 26 y _ (by decide)).trans ((hp 0 (by decide)).2 (by decide))) rfl ((k5_eval_frame 26 y _ (by decide)).trans ((hp 19 (by decide)).2 (by decide))) hr ⟨fun h=>absurd h (by decide),hJ3⟩
  ·exact step_move (.tmp 0) (.inl rfl) ⟨fun _=>(k5_eval_frame 26 y _ (by decide)).trans (hy 0 (by decide)),hJ.pure (by decide) (insD_not (by decide))⟩
  ·exact step_nil (.tmp 19) ⟨X,0,none⟩ rfl ((k5_eval_frame 26 y _ (by decide)).trans ((hp 21 (by decide)).2 (by decide))) ⟨fun _=>rfl,hJ.pure (by decide) (insD_not (by decide))⟩
  ·have e1:y 20=.pointer (some ⟨X,0,none⟩):=(hp 22 (by decide)).2 (by decide);have hJ2:=Lib.hid (hJ.pure (by decide) (insD_not (by decide)):JM w.heap.size X w.drew (upd L 23) w2);intro K Q hK;simp only [fr26] at hK⊢;clear hy hp hJ;rw [e1] at hK⊢;go_simp;exact hK _ _ ⟨fun _=>rfl,hJ2.out⟩
  ·obtain ⟨w3,hr,hJ3⟩:=hJ.insert rfl (i:=0) (by decide) (hp 0 (by decide)).1 hL;exact step_insert _ (.tmp 3) (.const (.int .u64 14)) (.tmp 21) rfl _ _ _ ((k5_eval_frame 26 y _ (by decide)).trans ((hp 0 (by decide)).2 (by decide))) rfl ((k5_eval_frame 26 y _ (by decide)).trans ((hp 23 (by decide)).2 (by decide))) hr ⟨fun h=>absurd h (by decide),hJ3⟩
  ·exact step_move (.tmp 0) (.inl rfl) ⟨fun _=>(k5_eval_frame 26 y _ (by decide)).trans (hy 0 (by decide)),hJ.pure (by decide) (insD_not (by decide))⟩
  ·exact step_nil (.tmp 22) ⟨X,0,none⟩ rfl ((k5_eval_frame 26 y _ (by decide)).trans ((hp 25 (by decide)).2 (by decide))) ⟨fun _=>rfl,hJ.pure (by decide) (insD_not (by decide))⟩
  ·have e1:y 23=.pointer (some ⟨X,0,none⟩):=(hp 26 (by decide)).2 (by decide);have hJ2:=Lib.hid (hJ.pure (by decide) (insD_not (by decide)):JM w.heap.size X w.drew (upd L 27) w2);intro K Q hK;simp only [fr26] at hK⊢;clear hy hp hJ;rw [e1] at hK⊢;go_simp;exact hK _ _ ⟨fun _=>rfl,hJ2.out⟩
  ·obtain ⟨w3,hr,hJ3⟩:=hJ.insert rfl (i:=4) (by decide) (hp 0 (by decide)).1 hL;exact step_insert _ (.tmp 3) (.const (.int .u64 1610612749)) (.tmp 24) rfl _ _ _ ((k5_eval_frame 26 y _ (by decide)).trans ((hp 0 (by decide)).2 (by decide))) rfl ((k5_eval_frame 26 y _ (by decide)).trans ((hp 27 (by decide)).2 (by decide))) hr ⟨fun h=>absurd h (by decide),hJ3⟩
  ·exact step_move (.tmp 3) (.inl rfl) ⟨fun _=>(k5_eval_frame 26 y _ (by decide)).trans ((hp 0 (by decide)).2 (by decide)),hJ.pure (by decide) (insD_not (by decide))⟩
  ·exact step_move (.tmp 25) (.inr rfl) ⟨fun _=>(k5_eval_frame 26 y _ (by decide)).trans ((hp 29 (by decide)).2 (by decide)),hJ.pure (by decide) (insD_not (by decide))⟩
 case fin=>
  intro L w' hJ hall;simp only [putAll,List.set_cons_succ,List.set_cons_zero,Nat.reduceAdd,List.getD_cons_succ,List.getD_cons_zero];obtain ⟨D,ho,hD,hb⟩:=hJ.2 (hall 0 (by decide));have HF:Hid (FieldsM w' w.heap.size X 7 stD0.seen):=Lib.hid ⟨D,ho.mono (cntD_le L),allD_zero hD fun i hi=>hall _ (insD_bd hi)⟩;have HB:Hid (Below w.heap.size w w'):=Lib.hid ((Below.refl _ w).drew.trans hb);clear hJ hall ho hD hb;go_wp2;go_ret;exact ⟨_,rfl,Nat.le_refl _,HF.out,HB.out⟩
theorem there_ok (g X n p:Nat) (seen:List Bool) (i:Nat) (w:World) (hi:i<7) (hp:w.cell? ⟨p,0,none⟩=some (.map (some g))) (hf:FieldsM w g X n seen) :
 Calls Tryz.prog 140 #[.int .u64 (tagsD.getD i 0),.pointer (some ⟨p,0,none⟩)] w fun e w'=>e=.returned (.bool (seen.getD i false))∧w=w':=by
 have hr:=hf.look1 hi;have ht:=tagsD_pos hi;generalize tagsD.getD i 0=t at hr ht;clear hf;cases hs:seen.getD i false with
 | true=>
   rw [hs,if_pos rfl] at hr;clear hs;go_enter Tryz.func140,Tryz.ntmps140
   go_wp2;go_ret;exact ⟨rfl,rfl⟩
 | false=>
   rw [hs,if_neg (by decide)] at hr;clear hs;go_enter Tryz.func140,Tryz.ntmps140
   go_wp2;go_ret;exact ⟨rfl,rfl⟩
theorem whole_any (g X n:Nat) (st:StD) (w:World) (hf:FieldsM w g X n st.seen) :
 Calls Tryz.prog 98 #[.map (some g)] w fun r w'=>r=.returned (.bool (wholeD st))∧Below w.heap.size w w':=by
 have HBL:Hid (∀o,Below w.heap.size w (w.alloc o)):=Lib.hid (fun o=>(Below.refl _ _).alloc (Nat.le_refl _) o);have HF:Hid (∀o,FieldsM (w.alloc o) g X n st.seen):=Lib.hid (fun o=>by
  obtain ⟨D,h1,h2⟩:=hf;exact ⟨D,h1.alloc o,h2⟩)
 have HC:Hid (∀i t,i<7→tagsD.getD i 0=t→Calls Tryz.prog 140 #[.int .u64 t,.pointer (some ⟨w.heap.size,0,none⟩)] (w.alloc (.cells #[.map (some g)] 151)) fun e w'=>e=.returned (.bool (st.seen.getD i false))∧(w.alloc (.cells #[.map (some g)] 151))=w'):=Lib.hid (fun i t hi ht=>by
  subst ht;exact there_ok g X n w.heap.size st.seen i _ hi (World.cell?_alloc_at _ _ _ _ rfl) (HF.out _))
 have H1:=Lib.hid (HC.out 1 5 (by decide) rfl);have H2:=Lib.hid (HC.out 2 10 (by decide) rfl);have H3:=Lib.hid (HC.out 3 6 (by decide) rfl);have H4:=Lib.hid (HC.out 4 1610612749 (by decide) rfl);have H5:=Lib.hid (HC.out 5 7 (by decide) rfl);have H6:=Lib.hid (HC.out 6 8 (by decide) rfl);unfold wholeD;generalize st.seen.getD 1 false=s1 at H1;generalize st.seen.getD 2 false=s2 at H2;generalize st.seen.getD 3 false=s3 at H3;generalize st.seen.getD 4 false=s4 at H4;generalize st.seen.getD 5 false=s5 at H5;generalize st.seen.getD 6 false=s6 at H6;clear hf HC HF;cases s1 with
 | false=>
   go_enter Tryz.func98,Tryz.ntmps98
   go_wp2_with (go_at_call 140;(first | with_reducible refine H1.out.mono ?_);rintro e w' ⟨rfl,rfl⟩);go_ret;exact ⟨rfl,HBL.out _⟩
 | true=>
   cases s2 with
   | false=>
     go_enter Tryz.func98,Tryz.ntmps98
     go_wp2_with (go_at_call 140;(first | with_reducible refine H1.out.mono ?_ | with_reducible refine H2.out.mono ?_);rintro e w' ⟨rfl,rfl⟩);go_ret;exact ⟨rfl,HBL.out _⟩
   | true=>
     cases h34:(s3==s4) with
     | false=>
       go_enter Tryz.func98,Tryz.ntmps98
       go_wp2_with (go_at_call 140;(first | with_reducible refine H1.out.mono ?_ | with_reducible refine H2.out.mono ?_ | with_reducible refine H3.out.mono ?_ | with_reducible refine H4.out.mono ?_);rintro e w' ⟨rfl,rfl⟩);go_ret;exact ⟨rfl,HBL.out _⟩
     | true=>
       go_enter Tryz.func98,Tryz.ntmps98
       go_wp2_with (go_at_call 140;(first | with_reducible refine H1.out.mono ?_ | with_reducible refine H2.out.mono ?_ | with_reducible refine H3.out.mono ?_ | with_reducible refine H4.out.mono ?_ | with_reducible refine H5.out.mono ?_ | with_reducible refine H6.out.mono ?_);rintro e w' ⟨rfl,rfl⟩);go_ret;exact ⟨rfl,HBL.out _⟩
theorem fill_form (g X n:Nat) (seen:List Bool) (t x:Int) (w:World) (ht:0≤t∧t≤18446744073709551615) (hf:FieldsM w g X n seen) (hi:idxD t=none) :
 Calls Tryz.prog 99 #[.map (some g),.int .u64 t,.int .u64 x] w fun e w'=>e=.returned (.int .i64 11)∧w=w':=by
 obtain ⟨v,hr⟩:=(hf.look ht).1 hi;clear hf hi;go_enter Tryz.func99,Tryz.ntmps99
 go_wp2;go_ret;exact ⟨rfl,rfl⟩
theorem fill_over (g X n:Nat) (seen:List Bool) (t x:Int) (i:Nat) (w:World) (ht:0≤t∧t≤18446744073709551615) (hf:FieldsM w g X n seen) (hi:idxD t=some i) (hs:seen.getD i false=true) :
 Calls Tryz.prog 99 #[.map (some g),.int .u64 t,.int .u64 x] w fun e w'=>e=.returned (.int .i64 12)∧w=w':=by
 have hr:=(hf.look ht).2 i hi;rw [if_pos hs] at hr;clear hf hi hs;go_enter Tryz.func99,Tryz.ntmps99
 go_wp2;go_ret;exact ⟨rfl,rfl⟩
theorem FieldsM.setCell {w:World} {g X n:Nat} {seen:List Bool} (h:FieldsM w g X n seen) {a:Addr} (ha:g≠a.block) (u:Value):FieldsM (w.setCell a u) g X n seen:=by
 obtain ⟨D,h1,h2⟩:=h;exact ⟨D,h1.setCell ha u,h2⟩
theorem FieldsM.below {w w':World} {g X n:Nat} {seen:List Bool} (h:FieldsM w g X n seen) (hb:Below w.heap.size w w'):FieldsM w' g X n seen:=by
 have hl:=h.lt;obtain ⟨D,⟨es,clock,h1,h2⟩,h3⟩:=h;exact ⟨D,⟨es,clock,by rw [hb.block g hl];exact h1,h2⟩,h3⟩
theorem FieldsM.grown {w w':World} {g X n:Nat} {seen:List Bool} {r:Option Nat} (h:FieldsM w g X n seen) (hg:w.grownBy w' r) (hr:some g≠r):FieldsM w' g X n seen:=by
 obtain ⟨D,h1,h2⟩:=h;exact ⟨D,h1.kept hg hr,h2⟩
theorem fill_ok (g X n:Nat) (seen:List Bool) (t x:Int) (i:Nat) (w:World) (x0:Int) (ht:0≤t∧t≤18446744073709551615) (hf:FieldsM w g X n seen) (hgX:g≠X) (hn:n<maxLen) (hl:seen.length=7) (hi:idxD t=some i) (hs:seen.getD i false=false)
 (hc:w.cell? ⟨X,i+1,none⟩=some (.int .u64 x0)) (hz:w.frozen? ⟨X,i+1,none⟩=false) :
 Calls Tryz.prog 99 #[.map (some g),.int .u64 t,.int .u64 x] w fun e w'=>e=.returned (.int .i64 0)∧FieldsM w' g X (n+1) (seen.set i true)∧(w.setCell ⟨X,i+1,none⟩ (.int .u64 x)).grownBy w' (some g):=by
 have hr:=(hf.look ht).2 i hi;rw [if_neg (by rw [hs];decide)] at hr;obtain ⟨w2,hr2,hf2,hg2⟩:=(hf.setCell (a:=⟨X,i+1,none⟩) hgX (.int .u64 x)).mark hn (idxD_lt hi).1 hl;rw [(idxD_lt hi).2] at hr2;have HF:=Lib.hid hf2;have HG:=Lib.hid hg2;clear hf hi hs hf2 hg2;go_enter Tryz.func99,Tryz.ntmps99
 go_wp2;go_ret;exact ⟨rfl,HF.out,HG.out⟩
end Go.Proofs.YtclgbdfkdbbinaaGreat
namespace Go.Proofs.YtclgbdfkdbbinaaGreat
open Go.RowKit
def needs (N:List Int):List (Int×Int):=N.map fun x=>(1,x)
theorem needs_len (N:List Int):(needs N).length=N.length:=by simp [needs]
theorem needs_step {N:List Int} {k:Nat} (h:k<N.length):needs (N.take (k+1))=needs (N.take k)++[(1,N.getD k 0)]:=by
 unfold needs;rw [List.take_succ_eq_append_getElem h,List.map_append,List.getD_eq_getElem?_getD,List.getElem?_eq_getElem h];rfl
theorem putBy_eq (N V:List Int):putBy N V=entsB (needs N++sevenD V 7)++entB (0,0):=by
 rw [←entsB_snoc];unfold putBy putEs needs;rw [List.append_assoc]
theorem putBy_len (N V:List Int):(putBy N V).length=16*(N.length+(sevenD V 7).length)+16:=by
 rw [putBy_eq,List.length_append,entsB_len,entB_len,List.length_append,needs_len]
theorem seven_le (V:List Int) (k:Nat):(sevenD V k).length≤k:=by
 unfold sevenD;rw [List.length_map];exact Nat.le_trans (List.length_filter_le _ _) (by simp)
theorem list7 {V:List Int} (h:V.length=7):∃x0 x1 x2 x3 x4 x5 x6,V=[x0,x1,x2,x3,x4,x5,x6]:=by
 rcases V with _ | ⟨c0,_ | ⟨c1,_ | ⟨c2,_ | ⟨c3,_ | ⟨c4,_ | ⟨c5,_ | ⟨c6,_ | ⟨c7,cs⟩⟩⟩⟩⟩⟩⟩⟩;all_goals first | exact ⟨_,_,_,_,_,_,_,rfl⟩ | (simp at h;try omega)
def infoV (a:Option Addr) (n c:Nat) (V:List Int):Value:=
 .agg #[.slice a n c,.int .u64 (V.getD 0 0),.int .u64 (V.getD 1 0),.int .u64 (V.getD 2 0),.int .u64 (V.getD 3 0),.int .u64 (V.getD 4 0),.int .u64 (V.getD 5 0),.int .u64 (V.getD 6 0)]
end Go.Proofs.YtclgbdfkdbbinaaGreat
