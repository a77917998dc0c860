/-
  What is proved here: ImageBack: what is built is read with the same names, or refused; what is read is in memory of its own.
  Conditions: none of our own; the law's row says what its input is.
-/
import Derived.Test.YtclgbdfkdbbinaaGreatRows
import Derived.Test.YtclgbdfkdbbinaaGreatC30
import Derived.Test.YtclgbdfkdbbinaaGreatC7
import Derived.WalkKit
import Derived.ProofKit
import Derived.OpenShut
import Derived.ShutString
import Derived.ChangeOld
import Derived.Below
set_option maxRecDepth 100000
set_option maxHeartbeats 12800000
namespace Go.Proofs.YtclgbdfkdbbinaaGreat.imageBack
open Go.ChangeShapes Go.WideShapes Go.ChangeAt Go.RowKit
open Go.ChangeMaps (open_string shut_string)
set_option linter.unusedVariables false
theorem own:ownKnob Tryz.prog.godebug=none:=by kernel_rfl
theorem laidOut:laidOutB Tryz.prog=true:=by kernel_rfl
theorem walk (x0:Spv) (m0:Sp) (w:World) (w0:SpIn w x0 m0) :
 Calls Tryz.prog 6 #[x0.val] w fun e w'=>e=.returned (.bool true)∧Below w.heap.size w w':=by
 obtain ⟨k,so,⟨nda,ndn,ndc⟩,en,⟨coa,con,coc⟩,⟨daa,dan,dac⟩,bz,⟨tla,tln,tlc⟩,tz,⟨dfa,dfn,dfc⟩,⟨fxa,fxn,fxc⟩⟩:=x0;have HIN:=Lib.hid w0;unfold Spv.val;simp only
 have HK0:Hid (Blk (w.alloc (.cells #[.int .i64 k,.string so,.slice nda ndn ndc,.int .u64 en,.slice coa con coc,.slice daa dan dac,.int .u64 bz,.slice tla tln tlc,.int .u64 tz,.slice dfa dfn dfc,.slice fxa fxn fxc] 47)) w.heap.size #[.int .i64 k,.string so,.slice nda ndn ndc,.int .u64 en,.slice coa con coc,.slice daa dan dac,.int .u64 bz,.slice tla tln tlc,.int .u64 tz,.slice dfa dfn dfc,.slice fxa fxn fxc] 47):=Lib.hid (Blk.new _ _ _);have HB0:Hid (Below w.heap.size w (w.alloc (.cells #[.int .i64 k,.string so,.slice nda ndn ndc,.int .u64 en,.slice coa con coc,.slice daa dan dac,.int .u64 bz,.slice tla tln tlc,.int .u64 tz,.slice dfa dfn dfc,.slice fxa fxn fxc] 47))):=Lib.hid ((Below.refl _ _).alloc (Nat.le_refl _) _);clear w0;go_enter Tryz.func6,Tryz.ntmps6
 go_wp2_with fail;refine (awake9_any _).mono ?_;rintro r v1 ⟨rfl,hb1⟩;have HK1:=Lib.hid (HK0.out.later hb1);have HB1:=Lib.hid (HB0.out.trans (hb1.mono HB0.out.size));have HFW:=Lib.hid (few_any w.heap.size (⟨k,so,⟨nda,ndn,ndc⟩,en,⟨coa,con,coc⟩,⟨daa,dan,dac⟩,bz,⟨tla,tln,tlc⟩,tz,⟨dfa,dfn,dfc⟩,⟨fxa,fxn,fxc⟩⟩:Spv) m0 v1 (HIN.out.is.below HB1.out) HB1.out.size HIN.out.so HIN.out.ns);unfold Spv.val at HFW;simp only at HFW;obtain ⟨q0,q1,q2,q3,q4,q5,q6,q7,q8,q9,q10⟩:=Iv.cs HK1.out;clear hb1 HK0 HB0;go_wp2_with fail;refine HFW.out.mono ?_;rintro r v2 ⟨⟨fb,rfl,hfew⟩,hb2⟩;have HB:=Lib.hid (HB1.out.trans (hb2.mono HB1.out.size));have HK:=Lib.hid (HK1.out.later hb2);have HFE:=Lib.hid hfew;clear hb2 hfew HFW HK1 HB1 q0 q1 q2 q3 q4 q5 q6 q7 q8 q9 q10;cases fb with
 | false=>
   go_wp2;go_ret;exact ⟨rfl,HB.out⟩
 | true=>
 have HF:=Lib.hid (HFE.out rfl);have HI:=Lib.hid (HIN.out.is.below HB.out);have HBY:=Lib.hid HIN.out.is.by
 clear HFE;have HBU:=Lib.hid (ibuild_few HI.out HB.out.size HIN.out.nil HF.out HIN.out.so HIN.out.ns);unfold Spv.val at HBU;simp only at HBU;have HBP:=Lib.hid (HI.out.back HF.out);have HZM:=Lib.hid (build_max m0);generalize buildI m0=Z at HBU HBY HBP HZM;obtain ⟨te,zs⟩:=Z;unfold BackP at HBP;simp only at HBY HBP HZM;obtain ⟨q0,q1,q2,q3,q4,q5,q6,q7,q8,q9,q10⟩:=Iv.cs HK.out;go_wp2_with fail;refine HBU.out.mono ?_;rintro r v3 ⟨u,rfl,ho,hb3⟩;have HB3:=Lib.hid (HB.out.trans (hb3.mono HB.out.size));have HK3:=Lib.hid (HK.out.later hb3);have HO:=Lib.hid ho;clear ho hb3 HBU HK q0 q1 q2 q3 q4 q5 q6 q7 q8 q9 q10;obtain ⟨ba,bc,rfl,hlc,hcm,-,-⟩:=ORow.own HO.out HBY.out;have HLC:=Lib.hid hlc;have HCM:=Lib.hid hcm;clear hlc hcm;by_cases hte:te=0
 ·subst hte;obtain ⟨hz0,hpn⟩:=HBP.out.2 rfl;have HPN:=Lib.hid hpn;clear hpn HBP;obtain ⟨g,rfl⟩:=own_ptr HO.out (show 0<zs.length from hz0);have HG:Hid (v2.heap.size≤g∧g<v3.heap.size):=Lib.hid (HO.out.lt g rfl);have HIP:=Lib.hid (iparse9_any v3.heap.size (some ⟨g,0,none⟩) zs.length bc zs v3 (Bys.own HBY.out HO.out) (Nat.le_refl _) HLC.out HCM.out (fun e=>by cases e));obtain ⟨N,hN⟩:∃N,zs.length=N:=⟨_,rfl⟩
  have HNL:=Lib.hid hN;rw [hN] at hz0 HO HLC HIP HZM⊢;have hzi:(1:Int)≤N:=by omega
  have hzm:(N:Int)≤65536:=by have:=HZM.out;omega
  clear hN;generalize parseI zs=Y at HIP HPN;obtain ⟨pe,pm⟩:=Y;simp only at HPN;go_wp2_with fail;refine HIP.out.mono ?_;rintro r v6 ⟨⟨ix,rfl,hx,hzo,hiz⟩,hb6⟩;have HB6:=Lib.hid (HB3.out.trans (hb6.mono HB3.out.size));have HK6:=Lib.hid (HK3.out.later hb6);have HO6:=Lib.hid (own_below HO.out hb6);have HZ3:=Lib.hid hb6.size;clear hb6 HIP HK3;by_cases hpe:pe=0
  ·subst hpe;obtain ⟨n1,n2,n3,n4⟩:=HPN.out rfl;have hxs:=hx.so;have HND:=Lib.hid hx.nd;have HNM:=Lib.hid hx.nm;have HZO:=Lib.hid hzo;have hom:=hx.onm.le;have hon:=hx.onm.max;clear hiz HPN;obtain ⟨xk,xe,xs,xc,⟨xga,xgn,xgc⟩,xso,⟨xna,xnn,xnc⟩,⟨xma,xmn,xmc⟩,⟨xya,xyn,xyc⟩,⟨xra,xrn,xrc⟩,⟨xza,xzn,xzc⟩⟩:=ix;simp only at hxs HND HNM HZO hom hon;have hnn:ndn=xnn:=by rw [←HND.out.1,n2,HI.out.nd.1]
   have hss:so=xso:=by rw [hxs,n1,←HI.out.so]
   have hzn:N=xzn:=by have h8:=hx.zs.1;simp only at h8;rw [n4,HNL.out] at h8;exact h8
   subst hnn hss;subst hzn;rw [n4,HNL.out] at HZO;rw [n2] at HND;obtain ⟨gz,rfl⟩:=own_ptr HZO.out (by omega);have HGZ:Hid (v3.heap.size≤gz):=Lib.hid (HZO.out.lt gz rfl).1;unfold Iv.val;try simp only
   have HKX:Hid (Blk (v6.alloc (.cells #[.int .i64 xk,.int .u64 xe,.int .u64 xs,.int .i64 xc,.slice xga xgn xgc,.string so,.slice xna ndn xnc,.slice xma xmn xmc,.slice xya xyn xyc,.slice xra xrn xrc,.slice (some ⟨gz,0,none⟩) N xzc] 32)) v6.heap.size #[.int .i64 xk,.int .u64 xe,.int .u64 xs,.int .i64 xc,.slice xga xgn xgc,.string so,.slice xna ndn xnc,.slice xma xmn xmc,.slice xya xyn xyc,.slice xra xrn xrc,.slice (some ⟨gz,0,none⟩) N xzc] 32):=Lib.hid (Blk.new _ _ _);have HKS:Hid (Blk (v6.alloc (.cells #[.int .i64 xk,.int .u64 xe,.int .u64 xs,.int .i64 xc,.slice xga xgn xgc,.string so,.slice xna ndn xnc,.slice xma xmn xmc,.slice xya xyn xyc,.slice xra xrn xrc,.slice (some ⟨gz,0,none⟩) N xzc] 32)) w.heap.size #[.int .i64 k,.string so,.slice nda ndn ndc,.int .u64 en,.slice coa con coc,.slice daa dan dac,.int .u64 bz,.slice tla tln tlc,.int .u64 tz,.slice dfa dfn dfc,.slice fxa fxn fxc] 47):=Lib.hid (HK6.out.alloc _);have HBX:Hid (Below v6.heap.size v6 (v6.alloc (.cells #[.int .i64 xk,.int .u64 xe,.int .u64 xs,.int .i64 xc,.slice xga xgn xgc,.string so,.slice xna ndn xnc,.slice xma xmn xmc,.slice xya xyn xyc,.slice xra xrn xrc,.slice (some ⟨gz,0,none⟩) N xzc] 32))):=Lib.hid ((Below.refl _ _).alloc (Nat.le_refl _) _);have HO7:=Lib.hid (HO6.out.alloc (.cells #[.int .i64 xk,.int .u64 xe,.int .u64 xs,.int .i64 xc,.slice xga xgn xgc,.string so,.slice xna ndn xnc,.slice xma xmn xmc,.slice xya xyn xyc,.slice xra xrn xrc,.slice (some ⟨gz,0,none⟩) N xzc] 32));have HZ7:=Lib.hid (HZO.out.alloc (.cells #[.int .i64 xk,.int .u64 xe,.int .u64 xs,.int .i64 xc,.slice xga xgn xgc,.string so,.slice xna ndn xnc,.slice xma xmn xmc,.slice xya xyn xyc,.slice xra xrn xrc,.slice (some ⟨gz,0,none⟩) N xzc] 32));have HNA:Hid (0<dfn→xmn=dfn+1):=Lib.hid (fun h=>by
    have h1:=n3 (by rw [HI.out.df.hl];exact h);rw [←HNM.out.1,h1];simp [HI.out.df.hl])
   have HN3:Hid (∀i,i<dfn→pm.nm.getD (i+1) .empty=(m0.df.getD i Df.zero).nm):=Lib.hid (fun i hi=>by
    have h2:=HI.out.df.hl;simp only at h2;rw [n3 (by rw [h2];omega),List.getD_cons_succ,List.getD_eq_getElem?_getD,List.getElem?_map,List.getElem?_eq_getElem (by omega),List.getD_eq_getElem?_getD,List.getElem?_eq_getElem (by omega)];rfl)
   obtain ⟨sS,hS⟩:∃s,strOfNums zs=s:=⟨_,rfl⟩
   have hcv1:(convert 22 9 (.slice (some ⟨g,0,none⟩) N bc)).run Tryz.prog (v6.alloc (.cells #[.int .i64 xk,.int .u64 xe,.int .u64 xs,.int .i64 xc,.slice xga xgn xgc,.string so,.slice xna ndn xnc,.slice xma xmn xmc,.slice xya xyn xyc,.slice xra xrn xrc,.slice (some ⟨gz,0,none⟩) N xzc] 32))=.ok (.string (strOfNums zs)) (v6.alloc (.cells #[.int .i64 xk,.int .u64 xe,.int .u64 xs,.int .i64 xc,.slice xga xgn xgc,.string so,.slice xna ndn xnc,.slice xma xmn xmc,.slice xya xyn xyc,.slice xra xrn xrc,.slice (some ⟨gz,0,none⟩) N xzc] 32)):=by
    have:=(Bys.own HBY.out (by rw [HNL.out];exact HO7.out):Bys (v6.alloc (.cells #[.int .i64 xk,.int .u64 xe,.int .u64 xs,.int .i64 xc,.slice xga xgn xgc,.string so,.slice xna ndn xnc,.slice xma xmn xmc,.slice xya xyn xyc,.slice xra xrn xrc,.slice (some ⟨gz,0,none⟩) N xzc] 32)) (v6.alloc (.cells #[.int .i64 xk,.int .u64 xe,.int .u64 xs,.int .i64 xc,.slice xga xgn xgc,.string so,.slice xna ndn xnc,.slice xma xmn xmc,.slice xya xyn xyc,.slice xra xrn xrc,.slice (some ⟨gz,0,none⟩) N xzc] 32)).heap.size (some ⟨g,0,none⟩) zs.length zs).conv bc
    rwa [HNL.out] at this
   have hcv2:(convert 22 9 (.slice (some ⟨gz,0,none⟩) N xzc)).run Tryz.prog (v6.alloc (.cells #[.int .i64 xk,.int .u64 xe,.int .u64 xs,.int .i64 xc,.slice xga xgn xgc,.string so,.slice xna ndn xnc,.slice xma xmn xmc,.slice xya xyn xyc,.slice xra xrn xrc,.slice (some ⟨gz,0,none⟩) N xzc] 32))=.ok (.string (strOfNums zs)) (v6.alloc (.cells #[.int .i64 xk,.int .u64 xe,.int .u64 xs,.int .i64 xc,.slice xga xgn xgc,.string so,.slice xna ndn xnc,.slice xma xmn xmc,.slice xya xyn xyc,.slice xra xrn xrc,.slice (some ⟨gz,0,none⟩) N xzc] 32)):=by
    have:=(Bys.own HBY.out (by rw [HNL.out];exact HZ7.out):Bys (v6.alloc (.cells #[.int .i64 xk,.int .u64 xe,.int .u64 xs,.int .i64 xc,.slice xga xgn xgc,.string so,.slice xna ndn xnc,.slice xma xmn xmc,.slice xya xyn xyc,.slice xra xrn xrc,.slice (some ⟨gz,0,none⟩) N xzc] 32)) (v6.alloc (.cells #[.int .i64 xk,.int .u64 xe,.int .u64 xs,.int .i64 xc,.slice xga xgn xgc,.string so,.slice xna ndn xnc,.slice xma xmn xmc,.slice xya xyn xyc,.slice xra xrn xrc,.slice (some ⟨gz,0,none⟩) N xzc] 32)).heap.size (some ⟨gz,0,none⟩) zs.length zs).conv xzc
    rwa [HNL.out] at this
   rw [hS] at hcv1 hcv2;obtain ⟨q0,q1,q2,q3,q4,q5,q6,q7,q8,q9,q10⟩:=Iv.cs HKS.out;obtain ⟨y0,y1,y2,y3,y4,y5,y6,y7,y8,y9,y10⟩:=Iv.cs HKX.out;clear hS hxs n1 n2 n3 hx hzo HK6;have hdl:=HI.out.odf.le;have hdm:=HI.out.odf.max;have hnl:=HI.out.ond.le;have hnm:=HI.out.ond.max;simp only at hdl hdm hnl hnm;have hdi:(dfn:Int)≤30:=by have h8:=HF.out.df;have h9:=HI.out.df.hl;simp only at h9;omega
   by_cases hd0:0<dfn
   ·have hd0i:(0:Int)<dfn:=by omega
    have hxm:=HNA.out hd0;subst hxm;have hxi:(((dfn+1:Nat)):Int)=(dfn:Int)+1:=by omega
    go_wp2;go_loopw [9] (fun i wr=>∃q:Nat,q≤ndn∧i=.int .i64 q∧Blk wr w.heap.size #[.int .i64 k,.string so,.slice nda ndn ndc,.int .u64 en,.slice coa con coc,.slice daa dan dac,.int .u64 bz,.slice tla tln tlc,.int .u64 tz,.slice dfa dfn dfc,.slice fxa fxn fxc] 47∧Blk wr v6.heap.size #[.int .i64 xk,.int .u64 xe,.int .u64 xs,.int .i64 xc,.slice xga xgn xgc,.string so,.slice xna ndn xnc,.slice xma (dfn+1) xmc,.slice xya xyn xyc,.slice xra xrn xrc,.slice (some ⟨gz,0,none⟩) N xzc] 32∧Below v6.heap.size v6 wr) (fun i _=>ndn-(intOf i).toNat)
    case atStart=>exact ⟨0,Nat.zero_le _,rfl,HKS.out,HKX.out,HBX.out⟩
    case round=>
     clear q0 q1 q2 q3 q4 q5 q6 q7 q8 q9 q10 y0 y1 y2 y3 y4 y5 y6 y7 y8 y9 y10;obtain ⟨q,hq,rfl,hk1,hk2,hbel⟩:=hrel;have HK1:=Lib.hid hk1;have HK2:=Lib.hid hk2;have HBL:=Lib.hid hbel;have HBW:=Lib.hid (HB6.out.trans (hbel.mono HB6.out.size));have hg1:=hk1.lt;have hg2:=hk2.lt;have hsz:=hbel.size;obtain ⟨q0,q1,q2,q3,q4,q5,q6,q7,q8,q9,q10⟩:=Iv.cs hk1;obtain ⟨y0,y1,y2,y3,y4,y5,y6,y7,y8,y9,y10⟩:=Iv.cs hk2;clear hk1 hk2 hbel;by_cases hlt:q<ndn
     ·obtain ⟨b1,o1,hb1e,hb1B,hc1⟩:=HND.out.2 (by omega);obtain ⟨b2,o2,hb2e,hb2B,hc2⟩:=HIN.out.is.nd.2 (show 0<ndn by omega);simp only at hb2e hc2;subst hb1e hb2e;have c1:=(HBL.out.cell (p:=⟨b1,o1+q,none⟩) hb1B).trans (hc1 q hlt);have c2:=(HBW.out.cell (p:=⟨b2,o2+q,none⟩) hb2B).trans (hc2 q hlt);generalize m0.nd.getD q .empty=sq at c1 c2;have hqi:(q:Int)<ndn:=by omega
      have hb1w:b1<wr.heap.size:=by omega
      have hb2w:b2<wr.heap.size:=by have:=HBW.out.size;omega
      clear hc1 hc2;go_wp2;go_quiet (fail)
      go_wp2;go_roundw
      case rel=>exact ⟨q+1,by omega,by go_num,HK1.out.later (below_drewN (Below.refl _ _) _),HK2.out.later (below_drewN (Below.refl _ _) _),below_drewN HBL.out _⟩
      case measure=>(simp [intOf]<;>omega)
     ·obtain rfl:ndn=q:=by omega
      obtain ⟨wo,rfl⟩:∃wo:World,wo=wr:=⟨_,rfl⟩
      have HK1o:=HK1;have HK2o:=HK2;have HBLo:=HBL;go_wp2;go_loopw [10] (fun i wr=>∃q:Nat,q≤dfn∧i=.int .i64 q∧Blk wr w.heap.size #[.int .i64 k,.string so,.slice nda ndn ndc,.int .u64 en,.slice coa con coc,.slice daa dan dac,.int .u64 bz,.slice tla tln tlc,.int .u64 tz,.slice dfa dfn dfc,.slice fxa fxn fxc] 47∧Blk wr v6.heap.size #[.int .i64 xk,.int .u64 xe,.int .u64 xs,.int .i64 xc,.slice xga xgn xgc,.string so,.slice xna ndn xnc,.slice xma (dfn+1) xmc,.slice xya xyn xyc,.slice xra xrn xrc,.slice (some ⟨gz,0,none⟩) N xzc] 32∧Below v6.heap.size v6 wr) (fun i _=>dfn-(intOf i).toNat)
      case atStart=>exact ⟨0,Nat.zero_le _,rfl,HK1o.out,HK2o.out,HBLo.out⟩
      case round=>
       clear hg1 hg2 hsz HK1 HK2 HBL HBW HK1o HK2o HBLo hq hlt;clear q0 q1 q2 q3 q4 q5 q6 q7 q8 q9 q10 y0 y1 y2 y3 y4 y5 y6 y7 y8 y9 y10;obtain ⟨z,hz,rfl,hk1,hk2,hbel⟩:=hrel;have HK1:=Lib.hid hk1;have HK2:=Lib.hid hk2;have HBL:=Lib.hid hbel;have HBW:=Lib.hid (HB6.out.trans (hbel.mono HB6.out.size));have hg1:=hk1.lt;have hg2:=hk2.lt;have hsz:=hbel.size;obtain ⟨q0,q1,q2,q3,q4,q5,q6,q7,q8,q9,q10⟩:=Iv.cs hk1;obtain ⟨y0,y1,y2,y3,y4,y5,y6,y7,y8,y9,y10⟩:=Iv.cs hk2;clear hk1 hk2 hbel;by_cases hlt:z<dfn
       ·obtain ⟨b1,o1,hb1e,hb1B,hc1⟩:=HNM.out.2 (by omega);obtain ⟨b2,o2,hb2e,hb2B,hc2⟩:=HIN.out.is.df.hc (show 0<dfn by omega);simp only at hb2e hc2;subst hb1e hb2e;have c1:=(HBL.out.cell (p:=⟨b1,o1+(z+1),none⟩) hb1B).trans (hc1 (z+1) (by omega));obtain ⟨c2,-,-,-⟩:=(hc2 z hlt).below HBW.out hb2B;rw [HN3.out z hlt] at c1;generalize (m0.df.getD z Df.zero)=dq at c1 c2;obtain ⟨dn,dw,dof,dk⟩:=dq;simp only at c1 c2;have hzi:(z:Int)<dfn:=by omega
        have hb1w:b1<wr.heap.size:=by omega
        have hb2w:b2<wr.heap.size:=by have:=HBW.out.size;omega
        clear hc1 hc2;go_wp2;go_quiet (fail)
        go_wp2;go_roundw
        case rel=>exact ⟨z+1,by omega,by go_num,HK1.out.later (below_drewN (Below.refl _ _) _),HK2.out.later (below_drewN (Below.refl _ _) _),below_drewN HBL.out _⟩
        case measure=>(simp [intOf]<;>omega)
       ·obtain rfl:dfn=z:=by omega
        have hO:=own_below HO6.out HBL.out;have hc:=hO.cellAt 0 (by omega);rw [getElem_map_u8 (by rw [HNL.out];omega)] at hc;have hZ:=own_below HZO.out HBL.out;have hc2:=hZ.cellAt 0 (by omega);have hf2:=hZ.frozenAt 0;rw [getElem_map_u8 (by rw [HNL.out];omega)] at hc2;generalize zs.getD 0 0=c0 at hc hc2;have hne:g≠gz:=by have:=HG.out.2;have:=HGZ.out;omega
        have hgw:gz<wr.heap.size:=(hZ.lt gz rfl).2;have hnw:¬gz<w.heap.size:=by have:=HGZ.out;have:=HB3.out.size;omega
        have HST:Hid (∀x,Below w.heap.size w (wr.setCell ⟨gz,0,none⟩ x)):=Lib.hid (fun x=>HBW.out.setCell (p:=⟨gz,0,none⟩) (by simp only;omega) x);have hcs:∀x,(wr.setCell ⟨gz,0,none⟩ x).cell? ⟨g,0,none⟩=some (.int .u8 c0):=fun x=>by exact (World.cell?_setCell_other _ _ _ _ (fun e=>hne (congrArg Addr.block e).symm)).trans hc
        clear hO hZ;go_wp2;go_region
        go_wp2;go_ret;exact ⟨rfl,(HST.out _).drew⟩
   ·have hd0i:(dfn:Int)≤0:=by omega
    go_wp2;go_loopw [9] (fun i wr=>∃q:Nat,q≤ndn∧i=.int .i64 q∧Blk wr w.heap.size #[.int .i64 k,.string so,.slice nda ndn ndc,.int .u64 en,.slice coa con coc,.slice daa dan dac,.int .u64 bz,.slice tla tln tlc,.int .u64 tz,.slice dfa dfn dfc,.slice fxa fxn fxc] 47∧Blk wr v6.heap.size #[.int .i64 xk,.int .u64 xe,.int .u64 xs,.int .i64 xc,.slice xga xgn xgc,.string so,.slice xna ndn xnc,.slice xma xmn xmc,.slice xya xyn xyc,.slice xra xrn xrc,.slice (some ⟨gz,0,none⟩) N xzc] 32∧Below v6.heap.size v6 wr) (fun i _=>ndn-(intOf i).toNat)
    case atStart=>exact ⟨0,Nat.zero_le _,rfl,HKS.out,HKX.out,HBX.out⟩
    case round=>
     clear q0 q1 q2 q3 q4 q5 q6 q7 q8 q9 q10 y0 y1 y2 y3 y4 y5 y6 y7 y8 y9 y10;obtain ⟨q,hq,rfl,hk1,hk2,hbel⟩:=hrel;have HK1:=Lib.hid hk1;have HK2:=Lib.hid hk2;have HBL:=Lib.hid hbel;have HBW:=Lib.hid (HB6.out.trans (hbel.mono HB6.out.size));have hg1:=hk1.lt;have hg2:=hk2.lt;have hsz:=hbel.size;obtain ⟨q0,q1,q2,q3,q4,q5,q6,q7,q8,q9,q10⟩:=Iv.cs hk1;obtain ⟨y0,y1,y2,y3,y4,y5,y6,y7,y8,y9,y10⟩:=Iv.cs hk2;clear hk1 hk2 hbel;by_cases hlt:q<ndn
     ·obtain ⟨b1,o1,hb1e,hb1B,hc1⟩:=HND.out.2 (by omega);obtain ⟨b2,o2,hb2e,hb2B,hc2⟩:=HIN.out.is.nd.2 (show 0<ndn by omega);simp only at hb2e hc2;subst hb1e hb2e;have c1:=(HBL.out.cell (p:=⟨b1,o1+q,none⟩) hb1B).trans (hc1 q hlt);have c2:=(HBW.out.cell (p:=⟨b2,o2+q,none⟩) hb2B).trans (hc2 q hlt);generalize m0.nd.getD q .empty=sq at c1 c2;have hqi:(q:Int)<ndn:=by omega
      have hb1w:b1<wr.heap.size:=by omega
      have hb2w:b2<wr.heap.size:=by have:=HBW.out.size;omega
      clear hc1 hc2;go_wp2;go_quiet (fail)
      go_wp2;go_roundw
      case rel=>exact ⟨q+1,by omega,by go_num,HK1.out.later (below_drewN (Below.refl _ _) _),HK2.out.later (below_drewN (Below.refl _ _) _),below_drewN HBL.out _⟩
      case measure=>(simp [intOf]<;>omega)
     ·obtain rfl:ndn=q:=by omega
      obtain ⟨wo,rfl⟩:∃wo:World,wo=wr:=⟨_,rfl⟩
      have HK1o:=HK1;have HK2o:=HK2;have HBLo:=HBL;go_wp2;go_loopw [10] (fun i wr=>∃q:Nat,q≤dfn∧i=.int .i64 q∧Blk wr w.heap.size #[.int .i64 k,.string so,.slice nda ndn ndc,.int .u64 en,.slice coa con coc,.slice daa dan dac,.int .u64 bz,.slice tla tln tlc,.int .u64 tz,.slice dfa dfn dfc,.slice fxa fxn fxc] 47∧Blk wr v6.heap.size #[.int .i64 xk,.int .u64 xe,.int .u64 xs,.int .i64 xc,.slice xga xgn xgc,.string so,.slice xna ndn xnc,.slice xma xmn xmc,.slice xya xyn xyc,.slice xra xrn xrc,.slice (some ⟨gz,0,none⟩) N xzc] 32∧Below v6.heap.size v6 wr) (fun i _=>dfn-(intOf i).toNat)
      case atStart=>exact ⟨0,Nat.zero_le _,rfl,HK1o.out,HK2o.out,HBLo.out⟩
      case round=>
       clear hg1 hg2 hsz HK1 HK2 HBL HBW HK1o HK2o HBLo hq hlt;clear q0 q1 q2 q3 q4 q5 q6 q7 q8 q9 q10 y0 y1 y2 y3 y4 y5 y6 y7 y8 y9 y10;obtain ⟨z,hz,rfl,hk1,hk2,hbel⟩:=hrel;have HK1:=Lib.hid hk1;have HK2:=Lib.hid hk2;have HBL:=Lib.hid hbel;have HBW:=Lib.hid (HB6.out.trans (hbel.mono HB6.out.size));have hg1:=hk1.lt;have hg2:=hk2.lt;have hsz:=hbel.size;obtain ⟨q0,q1,q2,q3,q4,q5,q6,q7,q8,q9,q10⟩:=Iv.cs hk1;obtain ⟨y0,y1,y2,y3,y4,y5,y6,y7,y8,y9,y10⟩:=Iv.cs hk2;clear hk1 hk2 hbel;by_cases hlt:z<dfn
       ·omega
       ·obtain rfl:dfn=z:=by omega
        have hO:=own_below HO6.out HBL.out;have hc:=hO.cellAt 0 (by omega);rw [getElem_map_u8 (by rw [HNL.out];omega)] at hc;have hZ:=own_below HZO.out HBL.out;have hc2:=hZ.cellAt 0 (by omega);have hf2:=hZ.frozenAt 0;rw [getElem_map_u8 (by rw [HNL.out];omega)] at hc2;generalize zs.getD 0 0=c0 at hc hc2;have hne:g≠gz:=by have:=HG.out.2;have:=HGZ.out;omega
        have hgw:gz<wr.heap.size:=(hZ.lt gz rfl).2;have hnw:¬gz<w.heap.size:=by have:=HGZ.out;have:=HB3.out.size;omega
        have HST:Hid (∀x,Below w.heap.size w (wr.setCell ⟨gz,0,none⟩ x)):=Lib.hid (fun x=>HBW.out.setCell (p:=⟨gz,0,none⟩) (by simp only;omega) x);have hcs:∀x,(wr.setCell ⟨gz,0,none⟩ x).cell? ⟨g,0,none⟩=some (.int .u8 c0):=fun x=>by exact (World.cell?_setCell_other _ _ _ _ (fun e=>hne (congrArg Addr.block e).symm)).trans hc
        clear hO hZ;go_wp2;go_region
        go_wp2;go_ret;exact ⟨rfl,(HST.out _).drew⟩
  ·have hpeb:(pe==0)=false:=by simpa using hpe
   obtain rfl:=hiz hpe;unfold Iv.val iv0 Sh.zero;try simp only
   have HKX:=Lib.hid (Blk.new v6 #[.int .i64 0,.int .u64 0,.int .u64 0,.int .i64 0,.slice none 0 0,.string .empty,.slice none 0 0,.slice none 0 0,.slice none 0 0,.slice none 0 0,.slice none 0 0] 32);obtain ⟨y0,y1,y2,y3,y4,y5,y6,y7,y8,y9,y10⟩:=Iv.cs HKX.out;have HBF:Hid (∀o,Below w.heap.size w (v6.alloc o)):=Lib.hid (fun o=>HB6.out.alloc HB6.out.size o);clear hiz hpe hx hzo;go_wp2;go_ret;exact ⟨rfl,HBF.out _⟩
 ·have hteb:(te==0)=false:=by simpa using hte
  have hz:=HBP.out.1 hte;try simp only at hz
  subst hz;go_wp2;go_ret;exact ⟨rfl,HB3.out⟩
theorem lifted (os:Os) (started:os.Started) (H:Type) (enc:TypeId×Value→H) :
 ReturnsInHanded {} Tryz.checked os 6 .any (Rows.imageBackSpec.pre6 enc Tryz.prog Tryz.f6 Rows.imageBackRow.domain false) (Rows.imageBackSpec.post enc Tryz.prog Tryz.f6 false true false false):=by
 refine returnsInHanded_of_change (C:=Tryz.checked) own started (by kernel_rfl) Tryz.func6
  (ChangeSpec.witness6 (enc:=enc) (C:=Tryz.checked) false ⟨#[],#[.agg #[.int .i64 0,.string ByteArray.empty,.slice none 0 0,.int .u64 0,.slice none 0 0,.slice none 0 0,.int .u64 0,.slice none 0 0,.int .u64 0,.slice none 0 0,.slice none 0 0]],[]⟩ 8 (by kernel_rfl) (by kernel_rfl) (by kernel_rfl) (by kernel_rfl)) ?_
 intro W base args ds gs before hval0 hW hcnd _;have hval:∀(j:Nat) t v,Tryz.f6.params[j]?=some t→args[j]?=some v→Value.okWide Tryz.prog W .any base t v:=hval0;have hW':=hW;obtain ⟨p,q,hA0,hV,rfl,hfz,hnd⟩:=hW;have hA:DataW.TrodAll enc Tryz.prog W 0 (fun _=>true) true Tryz.f6.params.toList args.toList ds p:=hA0;rw [Tryz.params6] at hA hval;obtain ⟨v0,vs0,d0,ds0,p0,q0,hargs,rfl,rfl,h0,r0⟩:=trodAll_cons hA;obtain ⟨rfl,rfl,rfl⟩:=trodAll_nil r0;obtain rfl:args=#[v0]:=by cases args;simp_all
 obtain ⟨rfl,rfl⟩:=trodVars_none hV;obtain ⟨cs0,rfl,_⟩:=okWide_struct Tryz.underlying47 (hval 0 47 v0 rfl rfl);have k0:=h0;have lt0:∀x∈p0,x.block<W.heap.size:=by obtain ⟨m,hm⟩:=k0;exact DataW.trod_lt m _ _ _ hm
 obtain ⟨x0,m0,w0,rfl⟩:∃(s:Spv) (m:Sp),SpIn W s m∧cs0=s.cells:=by
  obtain ⟨fuel,hf⟩:=h0;exact Spv.open1 hf
 clear hA0 hval0;refine (walk x0 m0 W w0).mono fun e W' ⟨he,bel⟩=>?_;subst he;exact ⟨_,rfl,_,_,_,[],_,[],hW',trodAll_mk1 (shut_bool Tryz.underlying4 _),(trodAll_cons_mk (Below.trod laidOut (by kernel_rfl) (of_decide_eq_true (by kernel_rfl)) k0 bel lt0) trodAll_mk0),rfl,bel.frame _,fun h=>by cases h⟩
theorem over:Rows.imageBackRow.holds Tryz.pinned (OpenSpec.ofChange Rows.imageBackSpec):=
 OpenClaim.holds_of_wide 6 Tryz.f6 rfl rfl rfl rfl rfl rfl rfl ⟨rfl,rfl,rfl,rfl,rfl⟩ rfl rfl rfl rfl rfl (by kernel_rfl) Tryz.func6 (by kernel_rfl)
  (of_decide_eq_true (by kernel_rfl)) (by unfold Func.isWrapper;first | (rw [if_pos (by decide +kernel)];kernel_rfl) | (rw [if_neg (by decide +kernel)];exact ⟨rfl,rfl⟩))
  (fun os started H enc _=>lifted os started H enc)
theorem proved:Rows.ImageBackSaid:=over
#print axioms proved
end Go.Proofs.YtclgbdfkdbbinaaGreat.imageBack
