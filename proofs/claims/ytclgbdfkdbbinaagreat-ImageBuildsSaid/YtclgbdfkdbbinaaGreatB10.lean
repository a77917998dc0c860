/-
  What is proved here: words and contracts, a part of those that the statement rests on (B10).
  Conditions: none but that the arguments are values of their types.
-/
import Derived.Test.YtclgbdfkdbbinaaGreatB0
import Derived.Test.YtclgbdfkdbbinaaGreatB9
import Derived.Test.YtclgbdfkdbbinaaGreatB4
import Derived.BigQuiet
import Derived.Deep.QuietTactic
set_option linter.unusedVariables false
set_option linter.unusedSimpArgs false
set_option maxRecDepth 100000
set_option maxHeartbeats 12800000
namespace Go.Proofs.YtclgbdfkdbbinaaGreat
open Go.RowKit
def fO (m:Pm):Int×Pm:=
 if (aH m.m.sg m.m.zs m.st m.sz).1≠0 then ((aH m.m.sg m.m.zs m.st m.sz).1,m)
 else (chk (aH m.m.sg m.m.zs m.st m.sz).2,{ m with t:=(aH m.m.sg m.m.zs m.st m.sz).2 })
theorem qH (g:Nat):fp g 51 fO:=by
 intro p m w h;have H:=hZz h;have hgl:=h.lt;obtain ⟨T,hT⟩:∃T,aH m.m.sg m.m.zs m.st m.sz=T:=⟨_,rfl⟩
 have HOK:Hid (∀n∈T.2,0≤n∧n≤255):=hZz (by rw [←hT];exact hG h.row.okz _ _ _);have hv1:=h.row.v1;have hv2:=h.row.v2;have HLD:Hid (∀w1,Ps9 g w1 p m→Calls Tryz.prog 100 #[.pointer (some ⟨g,0,none⟩),.int .u64 m.st,.int .u64 m.sz] w1 (gz T w1)):=hZz (fun w1 h1=>by
  rw [←hT];exact gI g p m m.st m.sz w1 h1 hv1.2.1 hv1.2.2 hv2.2.1 hv2.2.2)
 obtain ⟨⟨k,e,s,c,⟨sga,sgn,sgc⟩,so,⟨nda,ndn,ndc⟩,⟨nma,nmn,nmc⟩,⟨sya,syn,syc⟩,⟨rla,rln,rlc⟩,⟨zsa,zsn,zsc⟩⟩,⟨fia,fin,fic⟩,⟨n0,n1,n2⟩,v0,v1,v2,v3,v4,v5,v6,⟨tba,tbn,tbc⟩⟩:=p;simp only at hv1 hv2 HLD;obtain ⟨rfl,-⟩:=hv1;obtain ⟨rfl,-⟩:=hv2;obtain ⟨Z,hZ⟩:∃Z,fO m=Z:=⟨_,rfl⟩
 have HZ:Hid (Z=if T.1≠0 then (T.1,m) else (chk T.2,{ m with t:=T.2 })):=hZz (by rw [←hZ];unfold fO;rw [hT]);rw [hZ];clear hZ hT;obtain ⟨te,TL⟩:=T;simp only at HLD HZ HOK;obtain ⟨tn,htn⟩:∃tn,TL.length=tn:=⟨_,rfl⟩
 obtain ⟨P0,hP0⟩:∃P0:World→Prop,P0=fun w1=>Ps9 g w1 ⟨⟨k,e,s,c,⟨sga,sgn,sgc⟩,so,⟨nda,ndn,ndc⟩,⟨nma,nmn,nmc⟩,⟨sya,syn,syc⟩,⟨rla,rln,rlc⟩,⟨zsa,zsn,zsc⟩⟩,⟨fia,fin,fic⟩,⟨n0,n1,n2⟩,v0,m.st,m.sz,v3,v4,v5,v6,⟨tba,tbn,tbc⟩⟩ (m)∧Kq g w w1:=⟨_,rfl⟩
 have HP0:Hid (P0 (w.drew)):=hZz (by rw [hP0];exact ⟨H.out.drew,(Kq.refl g w).drew (Nat.le_of_lt hgl)⟩);obtain ⟨P1,hP1⟩:∃P1:World→Prop,P1=fun w1=>∃xa xc,Ps9 g w1 ⟨⟨k,e,s,c,⟨sga,sgn,sgc⟩,so,⟨nda,ndn,ndc⟩,⟨nma,nmn,nmc⟩,⟨sya,syn,syc⟩,⟨rla,rln,rlc⟩,⟨zsa,zsn,zsc⟩⟩,⟨fia,fin,fic⟩,⟨n0,n1,n2⟩,v0,m.st,m.sz,v3,v4,v5,v6,⟨xa,tn,xc⟩⟩ { m with t:=TL }∧Kq g w w1:=⟨_,rfl⟩
 have HPB:Hid (∀w1,P0 w1→Blk w1 g #[.int .i64 k,.int .u64 e,.int .u64 s,.int .i64 c,.slice sga sgn sgc,.string so,.slice nda ndn ndc,.slice nma nmn nmc,.slice sya syn syc,.slice rla rln rlc,.slice zsa zsn zsc,.slice fia fin fic,.slice n0 n1 n2,.int .u64 v0,.int .u64 m.st,.int .u64 m.sz,.int .u64 v3,.int .u64 v4,.int .u64 v5,.int .u64 v6,.slice tba tbn tbc] 72):=hZz (fun w1 h1=>by rw [hP0] at h1;exact h1.1.box);have HPC:Hid (∀w1,P0 w1→Calls Tryz.prog 100 #[.pointer (some ⟨g,0,none⟩),.int .u64 m.st,.int .u64 m.sz] w1 fun r w2=>(∃u,r=.returned (.tuple #[u,.int .i64 te])∧w2.ownsRow (g+1) 5 1 u tn (TL.map (Value.int .u8)))∧P0 w2∧Kq g w1 w2):=hZz (fun w1 h1=>by
  rw [hP0] at h1;have hl:=h1.1.lt;refine (HLD.out w1 h1.1).mono ?_;rintro r w2 ⟨⟨u,hr,ho⟩,hb⟩;rw [htn] at ho;refine ⟨⟨u,hr,aR ho hl⟩,?_,Kq.later (Nat.le_of_lt hl) hb⟩;rw [hP0];exact ⟨h1.1.later hb,h1.2.trans (Kq.later (Nat.le_of_lt hl) hb)⟩)
 have HPS:Hid (∀w1 xa xc,P0 w1→w1.ownsRow (g+1) 5 1 (.slice xa tn xc) tn (TL.map (Value.int .u8))→P1 (w1.setCell ⟨g,20,none⟩ (.slice xa tn xc))∧Kq g w1 (w1.setCell ⟨g,20,none⟩ (.slice xa tn xc))):=hZz (fun w1 xa xc h1 ho=>by
  rw [hP0] at h1;rw [hP1];have hk:Kq g w1 (w1.setCell ⟨g,20,none⟩ (.slice xa tn xc)):=(Kq.refl g w1).set 20 _;have hbx:=h1.1.box.set 20 (.slice xa tn xc);exact ⟨⟨xa,xc,h1.1.next hk hbx { h1.1.row.kp hk.kp (Nat.lt_succ_self _) with t:=by simp only;rw [htn];exact cd hk.kp ho (Nat.lt_succ_self _),okt:=HOK.out } rfl rfl,h1.2.trans hk⟩,hk⟩)
 have HFZ:Hid (∀w1,P0 w1→w1.frozen? ⟨g,20,none⟩=false∧w1.cell? ⟨g,20,none⟩=some (.slice tba tbn tbc)∧g<w1.heap.size):=hZz (fun w1 h1=>⟨(HPB.out w1 h1).frozen 20,(HPB.out w1 h1).cell 20,(HPB.out w1 h1).lt⟩);have HR2:Hid (∀w1,P1 w1→∃xa xc,Kq g w w1∧Ps9 g w1 ⟨⟨k,e,s,c,⟨sga,sgn,sgc⟩,so,⟨nda,ndn,ndc⟩,⟨nma,nmn,nmc⟩,⟨sya,syn,syc⟩,⟨rla,rln,rlc⟩,⟨zsa,zsn,zsc⟩⟩,⟨fia,fin,fic⟩,⟨n0,n1,n2⟩,v0,m.st,m.sz,v3,v4,v5,v6,⟨xa,tn,xc⟩⟩ { m with t:=TL }∧Blk w1 g #[.int .i64 k,.int .u64 e,.int .u64 s,.int .i64 c,.slice sga sgn sgc,.string so,.slice nda ndn ndc,.slice nma nmn nmc,.slice sya syn syc,.slice rla rln rlc,.slice zsa zsn zsc,.slice fia fin fic,.slice n0 n1 n2,.int .u64 v0,.int .u64 m.st,.int .u64 m.sz,.int .u64 v3,.int .u64 v4,.int .u64 v5,.int .u64 v6,.slice xa tn xc] 72∧Calls Tryz.prog 101 #[.slice xa tn xc] w1 (fun r w2=>r=.returned (.int .i64 (chk TL))∧w1=w2)):=hZz (fun w1 h1=>by
  rw [hP1] at h1;obtain ⟨xa,xc,h2,h3⟩:=h1;refine ⟨xa,xc,h3,h2,h2.box,?_⟩;have h4:=h2.tab;exact rg w1.heap.size xa tn xc TL w1 h4.1 (by have h5:=h4.2.1;have h6:=h4.2.2;simp only at h5 h6;omega))
 clear h hP0 hP1 HLD htn;go_enter Tryz.func51,Tryz.ntmps51
 go_wp2_with fail;refine aL (by kernel_rfl) 29 rfl [4,5,6,7,8,9,10,11,12,13,14,15,16,3,17,18,19,20,29,2] (Kq (g)) (aU [Is (.pointer (some ⟨g,0,none⟩)),Is (.pointer (some ⟨g,0,none⟩)),Is (.pointer (some ⟨g,0,none⟩)),Is (.pointer (some ⟨g,0,none⟩)),Is (.pointer (some ⟨g,12,none⟩)),Is (.pointer (some ⟨g,14,none⟩)),Is (.int .u64 m.st),Is (.pointer (some ⟨g,0,none⟩)),Is (.pointer (some ⟨g,0,none⟩)),Is (.pointer (some ⟨g,12,none⟩)),Is (.pointer (some ⟨g,15,none⟩)),Is (.int .u64 m.sz),(OwE (g+1) 5 1 tn (TL.map (Value.int .u8)) te),(OwE (g+1) 5 1 tn (TL.map (Value.int .u8)) te),(Ow (g+1) 5 1 tn (TL.map (Value.int .u8))),Is (.int .i64 te),Is (.pointer (some ⟨g,0,none⟩)),Is (.pointer (some ⟨g,20,none⟩)),kd,Is (.int .i64 te)]) (Jo 18 (P0) (P1)) ?mono1 ?hj1 (by kernel_rfl) ?start1 ?steps1 ?fin1;case mono1=>exact aX (ac (Is.mono9 _ _) (ac (Is.mono9 _ _) (ac (Is.mono9 _ _) (ac (Is.mono9 _ _) (ac (Is.mono9 _ _) (ac (Is.mono9 _ _) (ac (Is.mono9 _ _) (ac (Is.mono9 _ _) (ac (Is.mono9 _ _) (ac (Is.mono9 _ _) (ac (Is.mono9 _ _) (ac (Is.mono9 _ _) (ac (OwE.mono (Nat.lt_succ_self _) _ _ _ _ _) (ac (OwE.mono (Nat.lt_succ_self _) _ _ _ _ _) (ac (Ow.mono (Nat.lt_succ_self _) _ _ _ _) (ac (Is.mono9 _ _) (ac (Is.mono9 _ _) (ac (Is.mono9 _ _) (ac (kd.mono _) (ac (Is.mono9 _ _) (bU _)))))))))))))))))))))
 case hj1=>exact Jo.congr dZc
 case start1=>exact ⟨fun _=>HP0.out,fun h=>by cases h⟩
 case fin1=>
  intro v9 L w9 hJ hall hF;have hQ:=hJ.p1 (hall 18 dZc);have f4:v9 0=.pointer (some ⟨g,0,none⟩):=hF 0 dZc dZc;have f5:v9 1=.pointer (some ⟨g,0,none⟩):=hF 1 dZc dZc;have f6:v9 2=.pointer (some ⟨g,0,none⟩):=hF 2 dZc dZc;have f7:v9 3=.pointer (some ⟨g,0,none⟩):=hF 3 dZc dZc;have f8:v9 4=.pointer (some ⟨g,12,none⟩):=hF 4 dZc dZc;have f9:v9 5=.pointer (some ⟨g,14,none⟩):=hF 5 dZc dZc;have f10:v9 6=.int .u64 m.st:=hF 6 dZc dZc;have f11:v9 7=.pointer (some ⟨g,0,none⟩):=hF 7 dZc dZc;have f12:v9 8=.pointer (some ⟨g,0,none⟩):=hF 8 dZc dZc;have f13:v9 9=.pointer (some ⟨g,12,none⟩):=hF 9 dZc dZc;have f14:v9 10=.pointer (some ⟨g,15,none⟩):=hF 10 dZc dZc;have f15:v9 11=.int .u64 m.sz:=hF 11 dZc dZc;have f18:v9 15=.int .i64 te:=hF 15 dZc dZc;have f19:v9 16=.pointer (some ⟨g,0,none⟩):=hF 16 dZc dZc;have f20:v9 17=.pointer (some ⟨g,20,none⟩):=hF 17 dZc dZc;have f2:v9 19=.int .i64 te:=hF 19 dZc dZc;clear hJ hall hF;simp only [aO,List.set_cons_succ,List.set_cons_zero,Nat.reduceAdd,f4,f5,f6,f7,f8,f9,f10,f11,f12,f13,f14,f15,f18,f19,f20,f2];clear f2 f4 f5 f6 f7 f8 f9 f10 f11 f12 f13 f14 f15 f18 f19 f20;obtain ⟨xa,xc,hkq,hst,hbx,hch⟩:=HR2.out _ hQ;have HKQ:=hZz hkq;have HST:=hZz hst;have HCH:=hZz hch;have q20:w9.cell? ⟨g,20,none⟩=some (.slice xa tn xc):=hbx.cell 20;have hgl2:=hbx.lt;clear hQ hkq hst hbx hch;by_cases hte:te=0
  ·have hz:=HZ.out;rw [if_neg (by simpa using hte)] at hz;subst hte hz;go_wp2_with fail;refine HCH.out.mono ?_;rintro r w3 ⟨rfl,rfl⟩;go_wp2;go_ret;exact ⟨rfl,fun _=>⟨_,HST.out⟩,HKQ.out⟩
  ·have hz:=HZ.out;rw [if_pos hte] at hz;subst hz;have hteb:(te != 0)=true:=by rw [bne_iff_ne];exact hte
   go_wp2;go_ret;exact ⟨rfl,fun e=>absurd e hte,HKQ.out⟩
 case steps1=>
  refine ⟨?_,?_,?_,?_,?_,?_,?_,?_,?_,?_,?_,?_,?_,?_,?_,?_,?_,?_,?_,?_,trivial⟩;all_goals intro L y w9 hJ hL hy0 hp0 hcl hun
  all_goals have hy:=hZz hy0
  all_goals have hp:=hZz hp0
  all_goals clear hy0 hp0 hun
  ·have e1:y 0=.pointer (some ⟨g,0,none⟩):=hy.out 0 dZc;have hJ3:=hZz (hJ.pure (show (18:Nat)≠0 by decide));intro K Q hK;clear hcl hJ;obtain ⟨A,hA,v1⟩:=evA1 (n:=29) e1 dZc;rw [hA] at hK⊢;clear hA hy hp;go_simp;exact hK _ _ ⟨Kq.refl _ _,fun _=>rfl,hJ3.out⟩
  ·have e1:y 0=.pointer (some ⟨g,0,none⟩):=hy.out 0 dZc;have hJ3:=hZz (hJ.pure (show (18:Nat)≠1 by decide));intro K Q hK;clear hcl hJ;obtain ⟨A,hA,v1⟩:=evA1 (n:=29) e1 dZc;rw [hA] at hK⊢;clear hA hy hp;go_simp;exact hK _ _ ⟨Kq.refl _ _,fun _=>rfl,hJ3.out⟩
  ·have e1:y 0=.pointer (some ⟨g,0,none⟩):=hy.out 0 dZc;have hJ3:=hZz (hJ.pure (show (18:Nat)≠2 by decide));intro K Q hK;clear hcl hJ;obtain ⟨A,hA,v1⟩:=evA1 (n:=29) e1 dZc;rw [hA] at hK⊢;clear hA hy hp;go_simp;exact hK _ _ ⟨Kq.refl _ _,fun _=>rfl,hJ3.out⟩
  ·have e1:y 6=.pointer (some ⟨g,0,none⟩):=(hp.out 2 dZc).2 dZc;have hJ3:=hZz (hJ.pure (show (18:Nat)≠3 by decide));intro K Q hK;clear hcl hJ;obtain ⟨A,hA,v1⟩:=evA1 (n:=29) e1 dZc;rw [hA] at hK⊢;clear hA hy hp;go_simp;exact hK _ _ ⟨Kq.refl _ _,fun _=>rfl,hJ3.out⟩
  ·have e1:y 7=.pointer (some ⟨g,0,none⟩):=(hp.out 3 dZc).2 dZc;have hJ3:=hZz (hJ.pure (show (18:Nat)≠4 by decide));intro K Q hK;clear hcl hJ;obtain ⟨A,hA,v1⟩:=evA1 (n:=29) e1 dZc;rw [hA] at hK⊢;clear hA hy hp;go_simp;exact hK _ _ ⟨Kq.refl _ _,fun _=>rfl,hJ3.out⟩
  ·have e1:y 8=.pointer (some ⟨g,12,none⟩):=(hp.out 4 dZc).2 dZc;have hJ3:=hZz (hJ.pure (show (18:Nat)≠5 by decide));intro K Q hK;clear hcl hJ;obtain ⟨A,hA,v1⟩:=evA1 (n:=29) e1 dZc;rw [hA] at hK⊢;clear hA hy hp;go_simp;exact hK _ _ ⟨Kq.refl _ _,fun _=>rfl,hJ3.out⟩
  ·have e1:y 9=.pointer (some ⟨g,14,none⟩):=(hp.out 5 dZc).2 dZc;have hLj:L 18=false:=by
    cases h:L 18 with
    | false=>rfl
    | true=>have:=(hcl 12 _ rfl (hcl 13 _ rfl (hcl 14 _ rfl (hcl 18 _ rfl h 14 dZc) 13 dZc) 12 dZc) 6 dZc);rw [hL] at this;cases this
   have hP:=hZz (hJ.p0 hLj);have q14:w9.cell? ⟨g,14,none⟩=some (.int .u64 m.st):=(HPB.out _ hP.out).cell 14;have hJ3:=hZz (hJ.pure (show (18:Nat)≠6 by decide));intro K Q hK;clear hcl hJ;obtain ⟨A,hA,v1⟩:=evA1 (n:=29) e1 dZc;rw [hA] at hK⊢;clear hA hy hp;go_simp;exact hK _ _ ⟨Kq.refl _ _,fun _=>rfl,hJ3.out⟩
  ·have e1:y 0=.pointer (some ⟨g,0,none⟩):=hy.out 0 dZc;have hJ3:=hZz (hJ.pure (show (18:Nat)≠7 by decide));intro K Q hK;clear hcl hJ;obtain ⟨A,hA,v1⟩:=evA1 (n:=29) e1 dZc;rw [hA] at hK⊢;clear hA hy hp;go_simp;exact hK _ _ ⟨Kq.refl _ _,fun _=>rfl,hJ3.out⟩
  ·have e1:y 11=.pointer (some ⟨g,0,none⟩):=(hp.out 7 dZc).2 dZc;have hJ3:=hZz (hJ.pure (show (18:Nat)≠8 by decide));intro K Q hK;clear hcl hJ;obtain ⟨A,hA,v1⟩:=evA1 (n:=29) e1 dZc;rw [hA] at hK⊢;clear hA hy hp;go_simp;exact hK _ _ ⟨Kq.refl _ _,fun _=>rfl,hJ3.out⟩
  ·have e1:y 12=.pointer (some ⟨g,0,none⟩):=(hp.out 8 dZc).2 dZc;have hJ3:=hZz (hJ.pure (show (18:Nat)≠9 by decide));intro K Q hK;clear hcl hJ;obtain ⟨A,hA,v1⟩:=evA1 (n:=29) e1 dZc;rw [hA] at hK⊢;clear hA hy hp;go_simp;exact hK _ _ ⟨Kq.refl _ _,fun _=>rfl,hJ3.out⟩
  ·have e1:y 13=.pointer (some ⟨g,12,none⟩):=(hp.out 9 dZc).2 dZc;have hJ3:=hZz (hJ.pure (show (18:Nat)≠10 by decide));intro K Q hK;clear hcl hJ;obtain ⟨A,hA,v1⟩:=evA1 (n:=29) e1 dZc;rw [hA] at hK⊢;clear hA hy hp;go_simp;exact hK _ _ ⟨Kq.refl _ _,fun _=>rfl,hJ3.out⟩
  ·have e1:y 14=.pointer (some ⟨g,15,none⟩):=(hp.out 10 dZc).2 dZc;have hLj:L 18=false:=by
    cases h:L 18 with
    | false=>rfl
    | true=>have:=(hcl 12 _ rfl (hcl 13 _ rfl (hcl 14 _ rfl (hcl 18 _ rfl h 14 dZc) 13 dZc) 12 dZc) 11 dZc);rw [hL] at this;cases this
   have hP:=hZz (hJ.p0 hLj);have q15:w9.cell? ⟨g,15,none⟩=some (.int .u64 m.sz):=(HPB.out _ hP.out).cell 15;have hJ3:=hZz (hJ.pure (show (18:Nat)≠11 by decide));intro K Q hK;clear hcl hJ;obtain ⟨A,hA,v1⟩:=evA1 (n:=29) e1 dZc;rw [hA] at hK⊢;clear hA hy hp;go_simp;exact hK _ _ ⟨Kq.refl _ _,fun _=>rfl,hJ3.out⟩
  ·have e1:y 5=.pointer (some ⟨g,0,none⟩):=(hp.out 1 dZc).2 dZc;have e2:y 10=.int .u64 m.st:=(hp.out 6 dZc).2 dZc;have e3:y 15=.int .u64 m.sz:=(hp.out 11 dZc).2 dZc;have hLj:L 18=false:=by
    cases h:L 18 with
    | false=>rfl
    | true=>have:=(hcl 13 _ rfl (hcl 14 _ rfl (hcl 18 _ rfl h 14 dZc) 13 dZc) 12 dZc);rw [hL] at this;cases this
   have hP:=hZz (hJ.p0 hLj);intro K Q hK;clear hcl hJ;obtain ⟨A,hA,v1,v2,v3⟩:=evA3 (n:=29) e1 e2 e3 dZc dZc dZc;rw [hA] at hK⊢;clear hA hy hp;go_simp;go_at_call 100
   refine (HPC.out _ hP.out).mono ?_;rintro r w7 ⟨⟨u,rfl,ho⟩,hp7,hk7⟩;exact hK _ _ ⟨hk7,fun _=>⟨u,rfl,ho⟩,Jo.call dZc hLj hp7⟩
  ·have e1:(OwE (g+1) 5 1 tn (TL.map (Value.int .u8)) te) (y 16) w9:=(hp.out 12 dZc).2 dZc;obtain ⟨u1,hv1,ho1⟩:=e1;have hJ3:=hZz (hJ.pure (show (18:Nat)≠13 by decide));intro K Q hK;clear hcl hJ;obtain ⟨A,hA,v1⟩:=evA1 (n:=29) hv1 dZc;rw [hA] at hK⊢;clear hA hy hp;go_simp;exact hK _ _ ⟨Kq.refl _ _,fun _=>⟨_,rfl,ho1⟩,hJ3.out⟩
  ·have e1:(OwE (g+1) 5 1 tn (TL.map (Value.int .u8)) te) (y 3) w9:=(hp.out 13 dZc).2 dZc;obtain ⟨u1,hv1,ho1⟩:=e1;have hJ3:=hZz (hJ.pure (show (18:Nat)≠14 by decide));intro K Q hK;clear hcl hJ;obtain ⟨A,hA,v1⟩:=evA1 (n:=29) hv1 dZc;rw [hA] at hK⊢;clear hA hy hp;go_simp;exact hK _ _ ⟨Kq.refl _ _,fun _=>ho1,hJ3.out⟩
  ·have e1:(OwE (g+1) 5 1 tn (TL.map (Value.int .u8)) te) (y 3) w9:=(hp.out 13 dZc).2 dZc;obtain ⟨u1,hv1,ho1⟩:=e1;have hJ3:=hZz (hJ.pure (show (18:Nat)≠15 by decide));intro K Q hK;clear hcl hJ;obtain ⟨A,hA,v1⟩:=evA1 (n:=29) hv1 dZc;rw [hA] at hK⊢;clear hA hy hp;go_simp;exact hK _ _ ⟨Kq.refl _ _,fun _=>rfl,hJ3.out⟩
  ·have e1:y 4=.pointer (some ⟨g,0,none⟩):=(hp.out 0 dZc).2 dZc;have hJ3:=hZz (hJ.pure (show (18:Nat)≠16 by decide));intro K Q hK;clear hcl hJ;obtain ⟨A,hA,v1⟩:=evA1 (n:=29) e1 dZc;rw [hA] at hK⊢;clear hA hy hp;go_simp;exact hK _ _ ⟨Kq.refl _ _,fun _=>rfl,hJ3.out⟩
  ·have e1:y 19=.pointer (some ⟨g,0,none⟩):=(hp.out 16 dZc).2 dZc;have hJ3:=hZz (hJ.pure (show (18:Nat)≠17 by decide));intro K Q hK;clear hcl hJ;obtain ⟨A,hA,v1⟩:=evA1 (n:=29) e1 dZc;rw [hA] at hK⊢;clear hA hy hp;go_simp;exact hK _ _ ⟨Kq.refl _ _,fun _=>rfl,hJ3.out⟩
  ·have e1:y 20=.pointer (some ⟨g,20,none⟩):=(hp.out 17 dZc).2 dZc;have e2:(Ow (g+1) 5 1 tn (TL.map (Value.int .u8))) (y 17) w9:=(hp.out 14 dZc).2 dZc;obtain ⟨⟨xa,xn,xc⟩,-,hxn,hv2⟩:=dP e2;simp only at hxn hv2;subst hxn;have hP:=hZz (hJ.p0 hL);obtain ⟨z0,z1,z2⟩:=HFZ.out _ hP.out;have hps:=HPS.out _ xa xc hP.out (by have e:=e2;rw [hv2] at e;exact e);intro K Q hK;clear hcl hJ;obtain ⟨A,hA,v1,v2⟩:=evA2 (n:=29) e1 hv2 dZc dZc;rw [hA] at hK⊢;clear hA hy hp;go_simp;exact hK undef _ ⟨hps.2,fun h=>absurd h dZc,Jo.second hps.1⟩
  ·have e1:y 18=.int .i64 te:=(hp.out 15 dZc).2 dZc;have hJ3:=hZz (hJ.pure (show (18:Nat)≠19 by decide));intro K Q hK;clear hcl hJ;obtain ⟨A,hA,v1⟩:=evA1 (n:=29) e1 dZc;rw [hA] at hK⊢;clear hA hy hp;go_simp;exact hK _ _ ⟨Kq.refl _ _,fun _=>rfl,hJ3.out⟩
def soI (m:Pm):Int×Pm:=if m.so=0 then (0,m) else ((atN m.t m.so).1,{ m with m:={ m.m with so:=(atN m.t m.so).2 } })
theorem kI (B:Nat) (a:Option Addr) (len cap:Nat) (t:List Int) (p:Int) (w:World) (hb:Bys w B a len t) (hcap:len≤cap) (hcm:(cap:Int)≤9223372036854775807) (p0:0≤p) :
 Calls Tryz.prog 102 #[.slice a len cap,.int .u64 p] w fun e w'=>e=.returned (.tuple #[.string (atN t p).2,.int .i64 (atN t p).1])∧w=w':=by
 obtain ⟨q,rfl⟩:=Int.eq_ofNat_of_zero_le p0;have hl:=hb.1;unfold atN;by_cases h:(t.length:Int)≤(q:Int)
 ·rw [if_pos h];exact rW a len cap q w oZm oZm
 ·rw [if_neg h,Int.toNat_natCast,hl];cases hz:fz (am t q (len-q)) with
  | some k=>exact at_ok B a len cap t q k w hb hcap hcm oZm (qz hz)
  | none=>exact vp B a len cap t q w hb hcap hcm oZm (qo hz)
theorem vU (g:Nat):fp g 52 soI:=by
 intro p m w h;have H:=hZz h;have hgl:=h.lt;obtain ⟨T,hT⟩:∃T,atN m.t m.so=T:=⟨_,rfl⟩
 have hv0:=h.row.v0;have HAT:Hid (∀w1,Ps9 g w1 p m→Calls Tryz.prog 102 #[.slice p.tb.a p.tb.n p.tb.c,.int .u64 m.so] w1 fun r w2=>r=.returned (.tuple #[.string T.2,.int .i64 T.1])∧w1=w2):=hZz (fun w1 h1=>by
  rw [←hT];have h4:=h1.tab;exact kI w1.heap.size _ _ _ m.t m.so w1 h4.1 h4.2.1 h4.2.2 hv0.2.1)
 obtain ⟨⟨k,e,s,c,⟨sga,sgn,sgc⟩,so,⟨nda,ndn,ndc⟩,⟨nma,nmn,nmc⟩,⟨sya,syn,syc⟩,⟨rla,rln,rlc⟩,⟨zsa,zsn,zsc⟩⟩,⟨fia,fin,fic⟩,⟨n0,n1,n2⟩,v0,v1,v2,v3,v4,v5,v6,⟨tba,tbn,tbc⟩⟩:=p;simp only at hv0 HAT;obtain ⟨rfl,-⟩:=hv0;have q13:w.cell? ⟨g,13,none⟩=some (.int .u64 m.so):=h.box.cell 13;obtain ⟨Z,hZ⟩:∃Z,soI m=Z:=⟨_,rfl⟩
 have HZ:Hid (Z=if m.so=0 then (0,m) else (T.1,{ m with m:={ m.m with so:=T.2 } })):=hZz (by rw [←hZ];unfold soI;rw [hT]);rw [hZ];clear hZ hT;by_cases h0:m.so=0
 ·have hz:=HZ.out;rw [if_pos h0] at hz;subst hz;rw [h0] at q13;clear h h0 HZ HAT;go_enter Tryz.func52,Tryz.ntmps52
  go_wp2;go_ret;exact ⟨rfl,fun _=>⟨_,H.out⟩,Kq.refl _ _⟩
 ·have hz:=HZ.out;rw [if_neg h0] at hz;subst hz;have h0b:(m.so==0)=false:=by simpa using h0
  obtain ⟨te,s5⟩:=T;simp only at HAT⊢;have h5:Hid (∀w1,Ps9 g w1 ⟨⟨k,e,s,c,⟨sga,sgn,sgc⟩,so,⟨nda,ndn,ndc⟩,⟨nma,nmn,nmc⟩,⟨sya,syn,syc⟩,⟨rla,rln,rlc⟩,⟨zsa,zsn,zsc⟩⟩,⟨fia,fin,fic⟩,⟨n0,n1,n2⟩,m.so,v1,v2,v3,v4,v5,v6,⟨tba,tbn,tbc⟩⟩ m→Ps9 g (w1.setCell ⟨g,5,none⟩ (.string s5)) ⟨⟨k,e,s,c,⟨sga,sgn,sgc⟩,s5,⟨nda,ndn,ndc⟩,⟨nma,nmn,nmc⟩,⟨sya,syn,syc⟩,⟨rla,rln,rlc⟩,⟨zsa,zsn,zsc⟩⟩,⟨fia,fin,fic⟩,⟨n0,n1,n2⟩,m.so,v1,v2,v3,v4,v5,v6,⟨tba,tbn,tbc⟩⟩ { m with m:={ m.m with so:=s5 } }∧Kq g w1 (w1.setCell ⟨g,5,none⟩ (.string s5))):=hZz (fun w1 h1=>by
   have hk:Kq g w1 (w1.setCell ⟨g,5,none⟩ (.string s5)):=(Kq.refl g w1).set 5 _;have hbx:=h1.box.set 5 (.string s5);exact ⟨h1.next hk hbx { h1.row.kp hk.kp (Nat.lt_succ_self _) with so:=rfl } rfl rfl,hk⟩)
  obtain ⟨P0,hP0⟩:∃P0:World→Prop,P0=fun w1=>Ps9 g w1 ⟨⟨k,e,s,c,⟨sga,sgn,sgc⟩,so,⟨nda,ndn,ndc⟩,⟨nma,nmn,nmc⟩,⟨sya,syn,syc⟩,⟨rla,rln,rlc⟩,⟨zsa,zsn,zsc⟩⟩,⟨fia,fin,fic⟩,⟨n0,n1,n2⟩,m.so,v1,v2,v3,v4,v5,v6,⟨tba,tbn,tbc⟩⟩ (m)∧Kq g w w1:=⟨_,rfl⟩
  have HP0:Hid (P0 (w.drew)):=hZz (by rw [hP0];exact ⟨H.out.drew,(Kq.refl g w).drew (Nat.le_of_lt hgl)⟩);obtain ⟨P1,hP1⟩:∃P1:World→Prop,P1=fun w1=>Ps9 g w1 ⟨⟨k,e,s,c,⟨sga,sgn,sgc⟩,s5,⟨nda,ndn,ndc⟩,⟨nma,nmn,nmc⟩,⟨sya,syn,syc⟩,⟨rla,rln,rlc⟩,⟨zsa,zsn,zsc⟩⟩,⟨fia,fin,fic⟩,⟨n0,n1,n2⟩,m.so,v1,v2,v3,v4,v5,v6,⟨tba,tbn,tbc⟩⟩ { m with m:={ m.m with so:=s5 } }∧Kq g w w1:=⟨_,rfl⟩
  have HPB:Hid (∀w1,P0 w1→Blk w1 g #[.int .i64 k,.int .u64 e,.int .u64 s,.int .i64 c,.slice sga sgn sgc,.string so,.slice nda ndn ndc,.slice nma nmn nmc,.slice sya syn syc,.slice rla rln rlc,.slice zsa zsn zsc,.slice fia fin fic,.slice n0 n1 n2,.int .u64 m.so,.int .u64 v1,.int .u64 v2,.int .u64 v3,.int .u64 v4,.int .u64 v5,.int .u64 v6,.slice tba tbn tbc] 72):=hZz (fun w1 h1=>by rw [hP0] at h1;exact h1.1.box);have HPC:Hid (∀w1,P0 w1→Calls Tryz.prog 102 #[.slice tba tbn tbc,.int .u64 m.so] w1 fun r w2=>r=.returned (.tuple #[.string s5,.int .i64 te])∧w1=w2):=hZz (fun w1 h1=>by rw [hP0] at h1;exact HAT.out w1 h1.1);have HPS:Hid (∀w1,P0 w1→P1 (w1.setCell ⟨g,5,none⟩ (.string s5))∧Kq g w1 (w1.setCell ⟨g,5,none⟩ (.string s5))):=hZz (fun w1 h1=>by
   rw [hP0] at h1;rw [hP1];obtain ⟨h2,h3⟩:=h5.out w1 h1.1;exact ⟨⟨h2,h1.2.trans h3⟩,h3⟩)
  have HFZ:Hid (∀w1,P0 w1→w1.frozen? ⟨g,5,none⟩=false∧w1.cell? ⟨g,5,none⟩=some (.string so)∧g<w1.heap.size):=hZz (fun w1 h1=>⟨(HPB.out w1 h1).frozen 5,(HPB.out w1 h1).cell 5,(HPB.out w1 h1).lt⟩);have HR1:=hZz (fun w1 (h1:P1 w1)=>(by rw [hP1] at h1;exact h1:Ps9 g w1 ⟨⟨k,e,s,c,⟨sga,sgn,sgc⟩,s5,⟨nda,ndn,ndc⟩,⟨nma,nmn,nmc⟩,⟨sya,syn,syc⟩,⟨rla,rln,rlc⟩,⟨zsa,zsn,zsc⟩⟩,⟨fia,fin,fic⟩,⟨n0,n1,n2⟩,m.so,v1,v2,v3,v4,v5,v6,⟨tba,tbn,tbc⟩⟩ { m with m:={ m.m with so:=s5 } }∧Kq g w w1));clear h hP0 hP1 HAT h5 h0 HZ;go_enter Tryz.func52,Tryz.ntmps52
  go_wp2_with fail;refine aL (by kernel_rfl) 27 rfl [10,11,12,13,14,15,16,17,18,19,20,9,21,22,23,24,25,27,2] (Kq (g)) (aU [Is (.pointer (some ⟨g,0,none⟩)),Is (.pointer (some ⟨g,0,none⟩)),Is (.pointer (some ⟨g,0,none⟩)),Is (.pointer (some ⟨g,20,none⟩)),Is (.slice tba tbn tbc),Is (.pointer (some ⟨g,0,none⟩)),Is (.pointer (some ⟨g,0,none⟩)),Is (.pointer (some ⟨g,12,none⟩)),Is (.pointer (some ⟨g,13,none⟩)),Is (.int .u64 m.so),Is (.tuple #[.string s5,.int .i64 te]),Is (.tuple #[.string s5,.int .i64 te]),Is (.string s5),Is (.int .i64 te),Is (.pointer (some ⟨g,0,none⟩)),Is (.pointer (some ⟨g,0,none⟩)),Is (.pointer (some ⟨g,5,none⟩)),kd,Is (.int .i64 te)]) (Jo 17 (P0) (P1)) ?mono3 ?hj3 (by kernel_rfl) ?start3 ?steps3 ?fin3;case mono3=>exact aX (ac (Is.mono9 _ _) (ac (Is.mono9 _ _) (ac (Is.mono9 _ _) (ac (Is.mono9 _ _) (ac (Is.mono9 _ _) (ac (Is.mono9 _ _) (ac (Is.mono9 _ _) (ac (Is.mono9 _ _) (ac (Is.mono9 _ _) (ac (Is.mono9 _ _) (ac (Is.mono9 _ _) (ac (Is.mono9 _ _) (ac (Is.mono9 _ _) (ac (Is.mono9 _ _) (ac (Is.mono9 _ _) (ac (Is.mono9 _ _) (ac (Is.mono9 _ _) (ac (kd.mono _) (ac (Is.mono9 _ _) (bU _))))))))))))))))))))
  case hj3=>exact Jo.congr dZc
  case start3=>exact ⟨fun _=>HP0.out,fun h=>by cases h⟩
  case fin3=>
   intro v9 L w9 hJ hall hF;have hQ:=hJ.p1 (hall 17 dZc);have f10:v9 0=.pointer (some ⟨g,0,none⟩):=hF 0 dZc dZc;have f11:v9 1=.pointer (some ⟨g,0,none⟩):=hF 1 dZc dZc;have f12:v9 2=.pointer (some ⟨g,0,none⟩):=hF 2 dZc dZc;have f13:v9 3=.pointer (some ⟨g,20,none⟩):=hF 3 dZc dZc;have f14:v9 4=.slice tba tbn tbc:=hF 4 dZc dZc;have f15:v9 5=.pointer (some ⟨g,0,none⟩):=hF 5 dZc dZc;have f16:v9 6=.pointer (some ⟨g,0,none⟩):=hF 6 dZc dZc;have f17:v9 7=.pointer (some ⟨g,12,none⟩):=hF 7 dZc dZc;have f18:v9 8=.pointer (some ⟨g,13,none⟩):=hF 8 dZc dZc;have f19:v9 9=.int .u64 m.so:=hF 9 dZc dZc;have f9:v9 11=.tuple #[.string s5,.int .i64 te]:=hF 11 dZc dZc;have f21:v9 12=.string s5:=hF 12 dZc dZc;have f22:v9 13=.int .i64 te:=hF 13 dZc dZc;have f23:v9 14=.pointer (some ⟨g,0,none⟩):=hF 14 dZc dZc;have f24:v9 15=.pointer (some ⟨g,0,none⟩):=hF 15 dZc dZc;have f25:v9 16=.pointer (some ⟨g,5,none⟩):=hF 16 dZc dZc;have f2:v9 18=.int .i64 te:=hF 18 dZc dZc;clear hJ hall hF;simp only [aO,List.set_cons_succ,List.set_cons_zero,Nat.reduceAdd,f10,f11,f12,f13,f14,f15,f16,f17,f18,f19,f9,f21,f22,f23,f24,f25,f2];clear f2 f9 f10 f11 f12 f13 f14 f15 f16 f17 f18 f19 f21 f22 f23 f24 f25;obtain ⟨hst,hkq⟩:=HR1.out _ hQ;have HKQ:=hZz hkq;have HST:=hZz hst;clear hQ hkq hst;go_wp2;go_ret;exact ⟨rfl,fun _=>⟨_,HST.out⟩,HKQ.out⟩
  case steps3=>
   refine ⟨?_,?_,?_,?_,?_,?_,?_,?_,?_,?_,?_,?_,?_,?_,?_,?_,?_,?_,?_,trivial⟩;all_goals intro L y w9 hJ hL hy0 hp0 hcl hun
   all_goals have hy:=hZz hy0
   all_goals have hp:=hZz hp0
   all_goals clear hy0 hp0 hun
   ·have e1:y 0=.pointer (some ⟨g,0,none⟩):=hy.out 0 dZc;have hJ3:=hZz (hJ.pure (show (17:Nat)≠0 by decide));intro K Q hK;clear hcl hJ;obtain ⟨A,hA,v1⟩:=evA1 (n:=27) e1 dZc;rw [hA] at hK⊢;clear hA hy hp;go_simp;exact hK _ _ ⟨Kq.refl _ _,fun _=>rfl,hJ3.out⟩
   ·have e1:y 0=.pointer (some ⟨g,0,none⟩):=hy.out 0 dZc;have hJ3:=hZz (hJ.pure (show (17:Nat)≠1 by decide));intro K Q hK;clear hcl hJ;obtain ⟨A,hA,v1⟩:=evA1 (n:=27) e1 dZc;rw [hA] at hK⊢;clear hA hy hp;go_simp;exact hK _ _ ⟨Kq.refl _ _,fun _=>rfl,hJ3.out⟩
   ·have e1:y 11=.pointer (some ⟨g,0,none⟩):=(hp.out 1 dZc).2 dZc;have hJ3:=hZz (hJ.pure (show (17:Nat)≠2 by decide));intro K Q hK;clear hcl hJ;obtain ⟨A,hA,v1⟩:=evA1 (n:=27) e1 dZc;rw [hA] at hK⊢;clear hA hy hp;go_simp;exact hK _ _ ⟨Kq.refl _ _,fun _=>rfl,hJ3.out⟩
   ·have e1:y 12=.pointer (some ⟨g,0,none⟩):=(hp.out 2 dZc).2 dZc;have hJ3:=hZz (hJ.pure (show (17:Nat)≠3 by decide));intro K Q hK;clear hcl hJ;obtain ⟨A,hA,v1⟩:=evA1 (n:=27) e1 dZc;rw [hA] at hK⊢;clear hA hy hp;go_simp;exact hK _ _ ⟨Kq.refl _ _,fun _=>rfl,hJ3.out⟩
   ·have e1:y 13=.pointer (some ⟨g,20,none⟩):=(hp.out 3 dZc).2 dZc;have hLj:L 17=false:=by
     cases h:L 17 with
     | false=>rfl
     | true=>have:=(hcl 10 _ rfl (hcl 11 _ rfl (hcl 12 _ rfl (hcl 17 _ rfl h 12 dZc) 11 dZc) 10 dZc) 4 dZc);rw [hL] at this;cases this
    have hP:=hZz (hJ.p0 hLj);have q20:w9.cell? ⟨g,20,none⟩=some (.slice tba tbn tbc):=(HPB.out _ hP.out).cell 20;have hJ3:=hZz (hJ.pure (show (17:Nat)≠4 by decide));intro K Q hK;clear hcl hJ;obtain ⟨A,hA,v1⟩:=evA1 (n:=27) e1 dZc;rw [hA] at hK⊢;clear hA hy hp;go_simp;exact hK _ _ ⟨Kq.refl _ _,fun _=>rfl,hJ3.out⟩
   ·have e1:y 0=.pointer (some ⟨g,0,none⟩):=hy.out 0 dZc;have hJ3:=hZz (hJ.pure (show (17:Nat)≠5 by decide));intro K Q hK;clear hcl hJ;obtain ⟨A,hA,v1⟩:=evA1 (n:=27) e1 dZc;rw [hA] at hK⊢;clear hA hy hp;go_simp;exact hK _ _ ⟨Kq.refl _ _,fun _=>rfl,hJ3.out⟩
   ·have e1:y 15=.pointer (some ⟨g,0,none⟩):=(hp.out 5 dZc).2 dZc;have hJ3:=hZz (hJ.pure (show (17:Nat)≠6 by decide));intro K Q hK;clear hcl hJ;obtain ⟨A,hA,v1⟩:=evA1 (n:=27) e1 dZc;rw [hA] at hK⊢;clear hA hy hp;go_simp;exact hK _ _ ⟨Kq.refl _ _,fun _=>rfl,hJ3.out⟩
   ·have e1:y 16=.pointer (some ⟨g,0,none⟩):=(hp.out 6 dZc).2 dZc;have hJ3:=hZz (hJ.pure (show (17:Nat)≠7 by decide));intro K Q hK;clear hcl hJ;obtain ⟨A,hA,v1⟩:=evA1 (n:=27) e1 dZc;rw [hA] at hK⊢;clear hA hy hp;go_simp;exact hK _ _ ⟨Kq.refl _ _,fun _=>rfl,hJ3.out⟩
   ·have e1:y 17=.pointer (some ⟨g,12,none⟩):=(hp.out 7 dZc).2 dZc;have hJ3:=hZz (hJ.pure (show (17:Nat)≠8 by decide));intro K Q hK;clear hcl hJ;obtain ⟨A,hA,v1⟩:=evA1 (n:=27) e1 dZc;rw [hA] at hK⊢;clear hA hy hp;go_simp;exact hK _ _ ⟨Kq.refl _ _,fun _=>rfl,hJ3.out⟩
   ·have e1:y 18=.pointer (some ⟨g,13,none⟩):=(hp.out 8 dZc).2 dZc;have hLj:L 17=false:=by
     cases h:L 17 with
     | false=>rfl
     | true=>have:=(hcl 10 _ rfl (hcl 11 _ rfl (hcl 12 _ rfl (hcl 17 _ rfl h 12 dZc) 11 dZc) 10 dZc) 9 dZc);rw [hL] at this;cases this
    have hP:=hZz (hJ.p0 hLj);have q13:w9.cell? ⟨g,13,none⟩=some (.int .u64 m.so):=(HPB.out _ hP.out).cell 13;have hJ3:=hZz (hJ.pure (show (17:Nat)≠9 by decide));intro K Q hK;clear hcl hJ;obtain ⟨A,hA,v1⟩:=evA1 (n:=27) e1 dZc;rw [hA] at hK⊢;clear hA hy hp;go_simp;exact hK _ _ ⟨Kq.refl _ _,fun _=>rfl,hJ3.out⟩
   ·have e1:y 14=.slice tba tbn tbc:=(hp.out 4 dZc).2 dZc;have e2:y 19=.int .u64 m.so:=(hp.out 9 dZc).2 dZc;have hLj:L 17=false:=by
     cases h:L 17 with
     | false=>rfl
     | true=>have:=(hcl 11 _ rfl (hcl 12 _ rfl (hcl 17 _ rfl h 12 dZc) 11 dZc) 10 dZc);rw [hL] at this;cases this
    have hP:=hZz (hJ.p0 hLj);intro K Q hK;clear hcl hJ;obtain ⟨A,hA,v1,v2⟩:=evA2 (n:=27) e1 e2 dZc dZc;rw [hA] at hK⊢;clear hA hy hp;go_simp;go_at_call 102
    refine (HPC.out _ hP.out).mono ?_;rintro r w7 ⟨rfl,rfl⟩;exact hK _ _ ⟨Kq.refl _ _,fun _=>rfl,Jo.call dZc hLj hP.out⟩
   ·have e1:Is (.tuple #[.string s5,.int .i64 te]) (y 20) w9:=(hp.out 10 dZc).2 dZc;have hv1:y 20=.tuple #[.string s5,.int .i64 te]:=e1;have hJ3:=hZz (hJ.pure (show (17:Nat)≠11 by decide));intro K Q hK;clear hcl hJ;obtain ⟨A,hA,v1⟩:=evA1 (n:=27) hv1 dZc;rw [hA] at hK⊢;clear hA hy hp;go_simp;exact hK _ _ ⟨Kq.refl _ _,fun _=>rfl,hJ3.out⟩
   ·have e1:y 9=.tuple #[.string s5,.int .i64 te]:=(hp.out 11 dZc).2 dZc;have hJ3:=hZz (hJ.pure (show (17:Nat)≠12 by decide));intro K Q hK;clear hcl hJ;obtain ⟨A,hA,v1⟩:=evA1 (n:=27) e1 dZc;rw [hA] at hK⊢;clear hA hy hp;go_simp;exact hK _ _ ⟨Kq.refl _ _,fun _=>rfl,hJ3.out⟩
   ·have e1:y 9=.tuple #[.string s5,.int .i64 te]:=(hp.out 11 dZc).2 dZc;have hJ3:=hZz (hJ.pure (show (17:Nat)≠13 by decide));intro K Q hK;clear hcl hJ;obtain ⟨A,hA,v1⟩:=evA1 (n:=27) e1 dZc;rw [hA] at hK⊢;clear hA hy hp;go_simp;exact hK _ _ ⟨Kq.refl _ _,fun _=>rfl,hJ3.out⟩
   ·have e1:y 10=.pointer (some ⟨g,0,none⟩):=(hp.out 0 dZc).2 dZc;have hJ3:=hZz (hJ.pure (show (17:Nat)≠14 by decide));intro K Q hK;clear hcl hJ;obtain ⟨A,hA,v1⟩:=evA1 (n:=27) e1 dZc;rw [hA] at hK⊢;clear hA hy hp;go_simp;exact hK _ _ ⟨Kq.refl _ _,fun _=>rfl,hJ3.out⟩
   ·have e1:y 23=.pointer (some ⟨g,0,none⟩):=(hp.out 14 dZc).2 dZc;have hJ3:=hZz (hJ.pure (show (17:Nat)≠15 by decide));intro K Q hK;clear hcl hJ;obtain ⟨A,hA,v1⟩:=evA1 (n:=27) e1 dZc;rw [hA] at hK⊢;clear hA hy hp;go_simp;exact hK _ _ ⟨Kq.refl _ _,fun _=>rfl,hJ3.out⟩
   ·have e1:y 24=.pointer (some ⟨g,0,none⟩):=(hp.out 15 dZc).2 dZc;have hJ3:=hZz (hJ.pure (show (17:Nat)≠16 by decide));intro K Q hK;clear hcl hJ;obtain ⟨A,hA,v1⟩:=evA1 (n:=27) e1 dZc;rw [hA] at hK⊢;clear hA hy hp;go_simp;exact hK _ _ ⟨Kq.refl _ _,fun _=>rfl,hJ3.out⟩
   ·have e1:y 25=.pointer (some ⟨g,5,none⟩):=(hp.out 16 dZc).2 dZc;have e2:y 21=.string s5:=(hp.out 12 dZc).2 dZc;have hP:=hZz (hJ.p0 hL);obtain ⟨z0,z1,z2⟩:=HFZ.out _ hP.out;have hps:=HPS.out _ hP.out;intro K Q hK;clear hcl hJ;obtain ⟨A,hA,v1,v2⟩:=evA2 (n:=27) e1 e2 dZc dZc;rw [hA] at hK⊢;clear hA hy hp;go_simp;exact hK undef _ ⟨hps.2,fun h=>absurd h dZc,Jo.second hps.1⟩
   ·have e1:y 22=.int .i64 te:=(hp.out 13 dZc).2 dZc;have hJ3:=hZz (hJ.pure (show (17:Nat)≠18 by decide));intro K Q hK;clear hcl hJ;obtain ⟨A,hA,v1⟩:=evA1 (n:=27) e1 dZc;rw [hA] at hK⊢;clear hA hy hp;go_simp;exact hK _ _ ⟨Kq.refl _ _,fun _=>rfl,hJ3.out⟩
def ndI (m:Pm):Int×Pm:=if (bX m.t m.N).1≠0 then ((bX m.t m.N).1,m) else (0,{ m with m:={ m.m with nd:=(bX m.t m.N).2 } })
theorem xd (g:Nat):iF g 53 (fun m=>m.m.nd=[]) ndI:=by
 intro p m w hpre h;have H:=hZz h;have hgl:=h.lt;obtain ⟨i0,hi,hz0,hz1,hz2⟩:=info_parts gN;have HI:=hZz hi;have HI0:=hZz hz0;have HI1:=hZz hz1;have HI2:=hZz hz2;clear hi hz0 hz1 hz2;have hzd:=h.row.zd hpre;have hl:=h.row.lN;have HTB:Hid (∀w1,Kp g w w1→Bys w1 w1.heap.size p.tb.a p.tb.n m.t∧p.tb.n≤p.tb.c∧(p.tb.c:Int)≤9223372036854775807):=hZz (fun w1 h1=>by
  have ho:=cd h1 h.row.t (Nat.lt_succ_self _);obtain ⟨n0,l0,c0⟩:=cT ho;rw [←n0] at ho;exact ⟨Bys.own h.row.okt ho,l0,c0⟩)
 have HLN:Hid (∀w1,Kp g w w1→Nus w1 w1.heap.size p.nd.a p.nd.n m.N):=hZz (fun w1 h1=>by
  have ho:=cd h1 h.row.N (Nat.lt_succ_self _);obtain ⟨n0,l0,c0⟩:=cT ho;rw [←n0] at ho;exact Nus.own h.row.okN ho)
 obtain ⟨p,hp⟩:∃q:Pz,q=p:=⟨_,rfl⟩
 obtain ⟨⟨k,e,s,c,⟨sga,sgn,sgc⟩,so,⟨nda,ndn,ndc⟩,⟨nma,nmn,nmc⟩,⟨sya,syn,syc⟩,⟨rla,rln,rlc⟩,⟨zsa,zsn,zsc⟩⟩,⟨fia,fin,fic⟩,⟨n0,n1,n2⟩,v0,v1,v2,v3,v4,v5,v6,⟨tba,tbn,tbc⟩⟩:=p;subst hp;simp only at hzd HTB HLN;unfold Sh.zero at hzd;injection hzd with e1 e2 e3;subst e1 e2 e3;have HBX:Hid (Blk w g #[.int .i64 k,.int .u64 e,.int .u64 s,.int .i64 c,.slice sga sgn sgc,.string so,.slice none 0 0,.slice nma nmn nmc,.slice sya syn syc,.slice rla rln rlc,.slice zsa zsn zsc,.slice fia fin fic,.slice n0 n1 n2,.int .u64 v0,.int .u64 v1,.int .u64 v2,.int .u64 v3,.int .u64 v4,.int .u64 v5,.int .u64 v6,.slice tba tbn tbc] 72):=hZz h.box;have HEND:Hid (∀(w3:World) (xa:Option Addr) (xc:Nat) (L:List ByteArray),Kq g w w3→Blk w3 g #[.int .i64 k,.int .u64 e,.int .u64 s,.int .i64 c,.slice sga sgn sgc,.string so,.slice xa L.length xc,.slice nma nmn nmc,.slice sya syn syc,.slice rla rln rlc,.slice zsa zsn zsc,.slice fia fin fic,.slice n0 n1 n2,.int .u64 v0,.int .u64 v1,.int .u64 v2,.int .u64 v3,.int .u64 v4,.int .u64 v5,.int .u64 v6,.slice tba tbn tbc] 72→w3.ownsRow w.heap.size 9 1 (.slice xa L.length xc) L.length (L.map Value.string)→(L=[]→xa=none∧xc=0)→Ps9 g w3 ⟨⟨k,e,s,c,⟨sga,sgn,sgc⟩,so,⟨xa,L.length,xc⟩,⟨nma,nmn,nmc⟩,⟨sya,syn,syc⟩,⟨rla,rln,rlc⟩,⟨zsa,zsn,zsc⟩⟩,⟨fia,fin,fic⟩,⟨n0,n1,n2⟩,v0,v1,v2,v3,v4,v5,v6,⟨tba,tbn,tbc⟩⟩ { m with m:={ m.m with nd:=L } }):=hZz (fun w3 xa xc L hk hb ho hnil=>
  H.out.next hk hb { H.out.row.kp hk.kp (Nat.lt_succ_self _) with nd:=aR ho hgl,zd:=fun e=>by obtain ⟨e1,e2⟩:=hnil e;have e:L=[]:=e;subst e;subst e1;subst e2;rfl } rfl rfl)
 obtain ⟨Z,hZ⟩:∃Z,ndI m=Z:=⟨_,rfl⟩
 have HZ:Hid (Z=if (bX m.t m.N).1≠0 then ((bX m.t m.N).1,m) else (0,{ m with m:={ m.m with nd:=(bX m.t m.N).2 } })):=hZz (by rw [←hZ];rfl);rw [hZ];clear hZ h hpre;go_enter Tryz.func53,Tryz.ntmps53
 have q0:w.cell? ⟨g,12,none⟩=some (.slice n0 n1 n2):=HBX.out.cell 12;have hln:m.N.length=n1:=(HLN.out w (Kp.refl _ _)).hl;have HNL:=hZz hln;rw [hln] at hl;have hli:(n1:Int)≤65537:=by omega
 clear hln;go_wp2;go_loopw [4,5,6,13] (fun _ _ _ i wr=>∃(q:Nat) (xa:Option Addr) (xc:Nat) (L:List ByteArray),q≤n1∧i=.int .i64 q∧L.length=q∧ep m.t m.N q L∧Kq g w wr∧Blk wr g #[.int .i64 k,.int .u64 e,.int .u64 s,.int .i64 c,.slice sga sgn sgc,.string so,.slice xa L.length xc,.slice nma nmn nmc,.slice sya syn syc,.slice rla rln rlc,.slice zsa zsn zsc,.slice fia fin fic,.slice n0 n1 n2,.int .u64 v0,.int .u64 v1,.int .u64 v2,.int .u64 v3,.int .u64 v4,.int .u64 v5,.int .u64 v6,.slice tba tbn tbc] 72∧wr.ownsRow w.heap.size 9 1 (.slice xa L.length xc) L.length (L.map Value.string)∧(L=[]→xa=none∧xc=0)) (fun _ _ _ i _=>n1-(intOf i).toNat)
 case atStart=>exact ⟨0,none,0,[],Nat.zero_le _,rfl,rfl,ep.zero _ _,Kq.refl _ _,HBX.out,World.ownsRow_nil _ _ _ _,fun _=>⟨rfl,rfl⟩⟩
 case round=>
  obtain ⟨q,xa,xc,L,hq,rfl,hL,hup,hkq,hbx,hown,hnil⟩:=hrel;subst hL;obtain ⟨q,hqL⟩:∃q,L.length=q:=⟨_,rfl⟩
  rw [hqL] at hq hup hbx hown⊢;have HLQ:=hZz hqL;have HUP:=hZz hup;have HKQ:=hZz hkq;have HBW:=hZz hbx;have HOW:=hZz hown;have HNI:=hZz hnil;obtain ⟨htb,htc1,htc2⟩:=HTB.out wr hkq.kp;have HTW:=hZz htb;have HLW:=hZz (HLN.out wr hkq.kp);have x20:wr.cell? ⟨g,20,none⟩=some (.slice tba tbn tbc):=hbx.cell 20;have xcl:wr.cell? ⟨g,6,none⟩=some (.slice xa q xc):=hbx.cell 6;have hgw:=hbx.lt;have hww:w.heap.size≤wr.heap.size:=hkq.bel.size;clear hup hkq hbx hown htb hnil hqL;by_cases hlt:q<n1
  ·have hlti:(q:Int)<n1:=by omega
   have HUE:=hZz (fun h=>HUP.out.err (by rw [HNL.out];exact hlt) h);have HUS:=hZz (fun h=>HUP.out.succ (by rw [HNL.out];exact hlt) h);have HUF:=hZz (fun h=>HUP.out.form (by rw [HNL.out];exact hlt) h);obtain ⟨sb,soff,hsa,hsB,hsc⟩:=HLW.out.hc oZm;subst hsa;have n9:=hsc q hlt;have hp:=sD HLW.out.bd q;generalize m.N.getD q 0=p at n9 hp HUE HUS HUF;obtain ⟨hp0,hp1⟩:=hp;have HAT:=hZz (kI _ tba tbn tbc m.t p wr HTW.out htc1 htc2 hp0);generalize atN m.t p=A at HAT HUE HUS HUF;obtain ⟨ae,an⟩:=A;simp only at HUE HUS HUF;clear hsc;go_wp2_with fail;refine HAT.out.mono ?_;rintro r w5 ⟨rfl,rfl⟩;by_cases hae:ae=0
   ·subst hae;by_cases han:an=.empty
    ·subst han;have hz:=HZ.out;rw [HUF.out rfl rfl,if_pos (by decide)] at hz;subst hz;have hem:=oJ;clear HUE HUS HUF;go_wp2;go_ret;exact ⟨rfl,fun e=>(by cases e),HKQ.out⟩
    ·have HU1:=hZz (HUS.out rfl han);have hne:=uU han;clear HUE HUS HUF han;go_wp2_with (at_builtin;refine wpList_append_own _ rfl _ _ 28 rfl w.heap.size 9 i0 (.string .empty) 1 16 Tryz.underlying28 HI.out HI0.out HI1.out HI2.out rfl dZc _ q _ rfl (HOW.out.alloc _) ⟨wr.heap.size,0,none⟩ 1 1 [.string an] rfl rfl ?c1 ?c2 ?c3 ?c4 ?c5 ?_);case c1=>first | exact cell_one_new _ _ _
     case c2=>intro u hu;obtain rfl:=List.mem_singleton.1 hu;rfl
     case c3=>unfold maxLen;omega
     case c4=>omega
     case c5=>simp;omega
     intro v4 w4 hown4 hg4 hnil4;obtain ⟨⟨na4,nn4,nc4⟩,hok4,hn4,rfl⟩:=dP hown4;simp only at hn4;subst hn4;have hlo:∀z,Value.ownBlock (.slice xa q xc)=some z→w.heap.size≤z:=fun z e=>(HOW.out.lt z e).1;have hgn9:∀z,Value.ownBlock (.slice xa q xc)=some z→g≠z:=fun z e=>by have:=hlo z e;omega
     have hbx4:=(HBW.out.alloc (.cells #[.string an] 9)).grown hg4 (fun e=>hgn9 _ e.symm rfl);have hal:=Kq.alloc HKQ.out (by first | exact Nat.le_of_lt hgw | (simp;omega)) (.cells #[.string an] 9);have hkq4:Kq g w w4:=⟨hal.bel.grown hg4 (by have:=hal.bel.size;omega) (fun z e=>by have:=hlo z e;omega),hal.kp.grown hg4 hlo⟩
     have c7:w4.cell? ⟨g,6,none⟩=some (.slice xa q xc):=hbx4.cell 6;have f7:=hbx4.frozen 6;have hg9:=hbx4.lt;have HBX4:=hZz (hbx4.set 6 (.slice na4 (q+1) nc4));have HKQ4:=hZz (hkq4.set 6 (.slice na4 (q+1) nc4));have HO4:Hid (w4.ownsRow w.heap.size 9 1 (.slice na4 (q+1) nc4) (q+1) ((L++[an]).map Value.string)):=hZz (by rw [List.map_append];exact hown4);have HO5:=hZz (ownsRow_setCell_below HO4.out (a:=⟨g,6,none⟩) (by show g<w.heap.size;exact hgl) (.slice na4 (q+1) nc4));have HLL:Hid ((L++[an]).length=q+1):=hZz (by rw [lZa,HLQ.out];rfl);clear hown4 hg4 hbx4 hkq4 hal hlo hgn9 hnil4;go_wp2;go_roundw
     case rel=>exact ⟨q+1,na4,nc4,L++[an],by omega,by go_num,HLL.out,HU1.out,HKQ4.out,by rw [HLL.out];exact HBX4.out,by rw [HLL.out];exact HO5.out,fun e=>by simp at e⟩
     case measure=>(simp [intOf]<;>omega)
   ·have haeb:(ae != 0)=true:=by rw [bne_iff_ne];exact hae
    have hz:=HZ.out;rw [HUE.out hae,if_pos hae] at hz;subst hz;clear HUE HUS;go_wp2;go_ret;exact ⟨rfl,fun e=>absurd e hae,HKQ.out⟩
  ·obtain rfl:q=n1:=by omega
   obtain ⟨he,hL⟩:=HUP.out.all (by rw [HNL.out];exact lZr _);have hz:=HZ.out;rw [he,hL,if_neg (by decide)] at hz;subst hz;clear he hL;go_wp2;go_ret;exact ⟨rfl,fun _=>⟨_,HEND.out _ _ _ L HKQ.out (by rw [HLQ.out];exact HBW.out) (by rw [HLQ.out];exact HOW.out) HNI.out⟩,HKQ.out⟩
end Go.Proofs.YtclgbdfkdbbinaaGreat
