/-
  What is proved here: words and contracts, a part of those that the statement rests on (B29).
  Conditions: none but that the arguments are values of their types.
-/
import Derived.Test.YtclgbdfkdbbinaaGreatB0
import Derived.Test.YtclgbdfkdbbinaaGreatB28
set_option linter.unusedVariables false
set_option linter.unusedSimpArgs false
set_option maxRecDepth 100000
set_option maxHeartbeats 12800000
namespace Go.Proofs.YtclgbdfkdbbinaaGreat
open Go.RowKit
theorem rb_98 (y:Nat→Value) (m:Sp) (hm:aZ m) (w:World) (B:Nat) (hB:B≤w.heap.size) (nda:Option Addr) (ndc:Nat) (coa:Option Addr) (coc:Nat) (daa:Option Addr) (dac:Nat) (tla:Option Addr) (tlc:Nat) (dfa:Option Addr) (dfc:Nat) (fxa:Option Addr) (fxc:Nat) (hx:(⟨m.k,m.so,⟨nda,m.nd.length,ndc⟩,m.en,⟨coa,m.co.length,coc⟩,⟨daa,m.da.length,dac⟩,m.bs,⟨tla,m.tl.length,tlc⟩,m.tb,⟨dfa,m.df.length,dfc⟩,⟨fxa,m.fx.length,fxc⟩⟩:Spv).Is w B m) (hnil:aC (⟨m.k,m.so,⟨nda,m.nd.length,ndc⟩,m.en,⟨coa,m.co.length,coc⟩,⟨daa,m.da.length,dac⟩,m.bs,⟨tla,m.tl.length,tlc⟩,m.tb,⟨dfa,m.df.length,dfc⟩,⟨fxa,m.fx.length,fxc⟩⟩:Spv)) (Z:Int×List Int) (hZ:Z=if 65536<(au m).length then (13,[]) else (0,au m)) (wz:World) (o:Value) (hst:RB w wz #[.int .i64 m.k,.string m.so,.slice nda m.nd.length ndc,.int .u64 m.en,.slice coa m.co.length coc,.slice daa m.da.length dac,.int .u64 m.bs,.slice tla m.tl.length tlc,.int .u64 m.tb,.slice dfa m.df.length dfc,.slice fxa m.fx.length fxc] o (au m)) (h22:y 22=o) :
 Code.wp Tryz.prog (aq 98 (Tryz.f16.body.getD .skip)) (bodyPost Tryz.prog Tryz.f16 (ah Z w)) ⟨af 479 y,[]⟩ wz:=by
 rw [bY,h22];clear h22;conv=>arg 2;whnf
 have hown:=hst.own;have hbel:=hst.bel;obtain ⟨oa,oc,rfl,-,-⟩:=az hown;have HO:=hZz (aR hown (Nat.le_succ _));have HB:=hZz hbel;clear hst hown hbel hx hnil;by_cases hg:65536<(au m).length
 ·have hgi:(65536:Int)<(au m).length:=by omega
  have HZ9:Hid (Z=(13,[])):=hZz (by rw [hZ,if_pos hg]);clear hg hZ;go_wp2;go_ret2;rw [HZ9.out];exact ah.none HB.out
 ·have hgi:¬(65536:Int)<(au m).length:=by omega
  have HZ9:Hid (Z=(0,au m)):=hZz (by rw [hZ,if_neg hg]);clear hg hZ;go_wp2;go_ret2;rw [HZ9.out];exact ⟨_,rfl,HO.out,HB.out⟩
theorem wL (x:List Value) (hxl:x.length=479) (m:Sp) (hm:aZ m) (w:World) (B:Nat) (hB:B≤w.heap.size) (nda:Option Addr) (ndc:Nat) (coa:Option Addr) (coc:Nat) (daa:Option Addr) (dac:Nat) (tla:Option Addr) (tlc:Nat) (dfa:Option Addr) (dfc:Nat) (fxa:Option Addr) (fxc:Nat) (hx:(⟨m.k,m.so,⟨nda,m.nd.length,ndc⟩,m.en,⟨coa,m.co.length,coc⟩,⟨daa,m.da.length,dac⟩,m.bs,⟨tla,m.tl.length,tlc⟩,m.tb,⟨dfa,m.df.length,dfc⟩,⟨fxa,m.fx.length,fxc⟩⟩:Spv).Is w B m) (hnil:aC (⟨m.k,m.so,⟨nda,m.nd.length,ndc⟩,m.en,⟨coa,m.co.length,coc⟩,⟨daa,m.da.length,dac⟩,m.bs,⟨tla,m.tl.length,tlc⟩,m.tb,⟨dfa,m.df.length,dfc⟩,⟨fxa,m.fx.length,fxc⟩⟩:Spv)) (Z:Int×List Int) (hZ:Z=if 65536<(au m).length then (13,[]) else (0,au m)) (wz:World) (o:Value) (hst:RB w wz #[.int .i64 m.k,.string m.so,.slice nda m.nd.length ndc,.int .u64 m.en,.slice coa m.co.length coc,.slice daa m.da.length dac,.int .u64 m.bs,.slice tla m.tl.length tlc,.int .u64 m.tb,.slice dfa m.df.length dfc,.slice fxa m.fx.length fxc] o (au m)) (h22:x.getD 22 undef=o) :
 Code.wp Tryz.prog (aq 98 (Tryz.f16.body.getD .skip)) (bodyPost Tryz.prog Tryz.f16 (ah Z w)) ⟨x.toArray,[]⟩ wz:=by
 rw [ap x,hxl];exact rb_98 (fun t=>x.getD t undef) m hm w B hB nda ndc coa coc daa dac tla tlc dfa dfc fxa fxc hx hnil Z hZ wz o hst h22
theorem vK (y:Nat→Value) (m:Sp) (hm:aZ m) (w:World) (B:Nat) (hB:B≤w.heap.size) (nda:Option Addr) (ndc:Nat) (coa:Option Addr) (coc:Nat) (daa:Option Addr) (dac:Nat) (tla:Option Addr) (tlc:Nat) (dfa:Option Addr) (dfc:Nat) (fxa:Option Addr) (fxc:Nat) (hx:(⟨m.k,m.so,⟨nda,m.nd.length,ndc⟩,m.en,⟨coa,m.co.length,coc⟩,⟨daa,m.da.length,dac⟩,m.bs,⟨tla,m.tl.length,tlc⟩,m.tb,⟨dfa,m.df.length,dfc⟩,⟨fxa,m.fx.length,fxc⟩⟩:Spv).Is w B m) (hnil:aC (⟨m.k,m.so,⟨nda,m.nd.length,ndc⟩,m.en,⟨coa,m.co.length,coc⟩,⟨daa,m.da.length,dac⟩,m.bs,⟨tla,m.tl.length,tlc⟩,m.tb,⟨dfa,m.df.length,dfc⟩,⟨fxa,m.fx.length,fxc⟩⟩:Spv)) (Z:Int×List Int) (hZ:Z=if 65536<(au m).length then (13,[]) else (0,au m)) (wz:World) (o:Value) (hst:RB w wz #[.int .i64 m.k,.string m.so,.slice nda m.nd.length ndc,.int .u64 m.en,.slice coa m.co.length coc,.slice daa m.da.length dac,.int .u64 m.bs,.slice tla m.tl.length tlc,.int .u64 m.tb,.slice dfa m.df.length dfc,.slice fxa m.fx.length fxc] o (cM m)) (h1:y 1=.pointer (some ⟨w.heap.size,0,none⟩)) (h20:y 20=.int .u64 (aD m)) (h22:y 22=o) :
 Code.wp Tryz.prog (aq 94 (Tryz.f16.body.getD .skip)) (bodyPost Tryz.prog Tryz.f16 (ah Z w)) ⟨af 479 y,[]⟩ wz:=by
 rw [bY,h1,h20,h22];clear h1 h20 h22;conv=>arg 2;whnf
 obtain ⟨i0,hI,hz0,hz1,hz2⟩:=info_parts aM;have HI:=hZz hI;have HZ0:=hZz hz0;have HZ1:=hZz hz1;have HZ2:=hZz hz2;clear hI hz0 hz1 hz2;have HTL:Hid (∀w1,Below w.heap.size w w1→Bys w1 w.heap.size tla m.tl.length m.tl):=hZz (fun w1 h1=>(hx.tl.more hB).below h1);have HNTL:Hid (tla=none→tlc=0):=hZz hnil.tl;have p:=hm.places;have sm:=p.small hm;have hsz:=hm.sz;have l1:(dL m).length≤150000:=by have:=eT m;omega
 have hc2:=eY m;have l2:(cr m).length≤300000:=by have:=p.co;split at hc2<;>omega
 have hd2:=eU m;have l3:(cM m).length≤400000:=by have:=p.da;split at hd2<;>omega
 have hdl:=gK m;have htl0:0≤aD m:=by omega
 have htl1:aD m≤300000:=by omega
 have lc:m.co.length≤65536:=by omega
 have ld:m.da.length≤65536:=by omega
 have lt:m.tl.length≤65536:=by omega
 have HFP:Hid (au m=if 0<m.tl.length then cM m++(List.replicate ((aD m).toNat-(cM m).length) 0++m.tl) else cM m):=hZz rfl;have HAFT:Hid (∀(x:List Value) (w9:World) (o9:Value),x.length=479→x.getD 22 undef=o9→RB w w9 #[.int .i64 m.k,.string m.so,.slice nda m.nd.length ndc,.int .u64 m.en,.slice coa m.co.length coc,.slice daa m.da.length dac,.int .u64 m.bs,.slice tla m.tl.length tlc,.int .u64 m.tb,.slice dfa m.df.length dfc,.slice fxa m.fx.length fxc] o9 (au m)→Code.wp Tryz.prog (aq 98 (Tryz.f16.body.getD .skip)) (bodyPost Tryz.prog Tryz.f16 (ah Z w)) ⟨x.toArray,[]⟩ w9):=hZz (fun x w9 o9 hxl h22 h=>wL x hxl m hm w B hB nda ndc coa coc daa dac tla tlc dfa dfc fxa fxc hx hnil Z hZ w9 o9 h h22);clear hc2 hd2 p sm hsz hx hnil hZ l1 l2 lc ld;generalize cM m=R2 at *;generalize aD m=tp at *;generalize au m=R3 at *;have HST:=hZz hst;have s7:wz.cell? ⟨w.heap.size,7,none⟩=some (.slice tla m.tl.length tlc):=HST.out.box.cell 7;clear hst;go_upto_if 462 with fail
 go_cut [22,462] (fun o1 _ wx=>RB w wx #[.int .i64 m.k,.string m.so,.slice nda m.nd.length ndc,.int .u64 m.en,.slice coa m.co.length coc,.slice daa m.da.length dac,.int .u64 m.bs,.slice tla m.tl.length tlc,.int .u64 m.tb,.slice dfa m.df.length dfc,.slice fxa m.fx.length fxc] o1 R3)
 case rest=>
  have h:=hcut;rename_i K hK;refine hK _ _ ?_;exact HAFT.out _ _ _ rfl rfl h
 case first=>
  by_cases hc:0<m.tl.length
  ·have hci:(0:Int)<m.tl.length:=by omega
   obtain ⟨j,hj⟩:∃j,tp.toNat-R2.length=j:=⟨_,rfl⟩
   have HRE:Hid (R3=(R2++List.replicate j 0)++m.tl):=hZz (by rw [HFP.out,if_pos hc,hj,List.append_assoc]);have hj1:tp≤(R2.length:Int)+j:=by omega
   have hj2:(R2.length:Int)+j≤tp:=by omega
   have hjl:R2.length+j≤300000:=by omega
   rw [decide_eq_true hc];clear hc hj htl0 htl1 hdl HFP;have hown0:=HST.out.own;obtain ⟨oa,oc,rfl,-,-⟩:=az hown0;clear hown0;go_wp2_with fail;go_loopw [22] (fun b wr=>∃k:Nat,k≤j∧RB w wr #[.int .i64 m.k,.string m.so,.slice nda m.nd.length ndc,.int .u64 m.en,.slice coa m.co.length coc,.slice daa m.da.length dac,.int .u64 m.bs,.slice tla m.tl.length tlc,.int .u64 m.tb,.slice dfa m.df.length dfc,.slice fxa m.fx.length fxc] b (R2++List.replicate k 0)∧(∃a c,b=.slice a (R2.length+k) c)) (fun b _=>R2.length+j-lenV b)
   case atStart=>exact ⟨0,Nat.zero_le _,by simpa using HST.out,⟨_,_,rfl⟩⟩
   case round=>
    obtain ⟨k,hk,hrb,⟨a,c,rfl⟩⟩:=hrel;have HRB:=hZz hrb;have hbsz:=hrb.box.lt;have hln:Hid ((R2++List.replicate k (0:Int)).length=R2.length+k):=hZz (by rw [lZa,List.length_replicate]);clear hrb;by_cases hlt:k<j
    ·have hki:((R2.length:Int)+k)<tp:=by omega
     have HRP:Hid (R2++List.replicate (k+1) (0:Int)=(R2++List.replicate k 0)++[0]):=hZz (by rw [List.replicate_succ',List.append_assoc]);go_wp2_with (at_builtin;refine wpList_append_own _ rfl _ _ 22 rfl (w.heap.size+1) 5 i0 (.int .u8 0) 1 1 Tryz.underlying22 HI.out HZ0.out HZ1.out HZ2.out rfl dZc _ _ _ rfl (HRB.out.own.alloc _) ⟨wr.heap.size,0,none⟩ 1 1 [.int .u8 0] rfl rfl ?c1 ?c2 ?c3 ?c4 ?c5 ?_);case c1=>exact cell_one_new _ _ _
     case c2=>intro u hu;obtain rfl:=List.mem_singleton.1 hu;rfl
     case c3=>rw [hln.out];unfold maxLen;omega
     case c4=>rw [hln.out];omega
     case c5=>simp;omega
     intro v2 w2 hown2 hg2 hnil2;have hown3:w2.ownsRow (w.heap.size+1) 5 1 v2 ((R2++List.replicate k 0).length+1) ((R2++List.replicate k (0:Int)).map (Value.int .u8)++[(0:Int)].map (Value.int .u8)):=by
      simpa only [List.map_append,List.map_replicate,List.map_cons,List.map_nil,List.append_assoc,lZa,List.length_replicate,Nat.add_assoc] using hown2
     have h2:=RB.app (ys:=[0]) (HRB.out.later ((Below.refl _ _).alloc (lZr _) (.cells #[.int .u8 0] 5))) hown3 rfl hg2;rw [←HRP.out] at h2;obtain ⟨a2,c2,hv2,-,-⟩:=az h2.own;rw [show (R2++List.replicate (k+1) (0:Int)).length=R2.length+(k+1) by rw [lZa,List.length_replicate]] at hv2;subst hv2;have HR2:=hZz h2;clear hown2 hown3 hg2 hnil2 h2;go_wp2;go_roundw
     case rel=>exact ⟨k+1,by omega,HR2.out,⟨_,_,rfl⟩⟩
     case measure=>show R2.length+j-(R2.length+(k+1))<R2.length+j-(R2.length+k);omega
    ·have hki:¬((R2.length:Int)+k)<tp:=by omega
     obtain rfl:k=j:=by omega
     have s7r:wr.cell? ⟨w.heap.size,7,none⟩=some (.slice tla m.tl.length tlc):=HRB.out.box.cell 7;go_wp2_with (at_builtin;refine ag rfl _ _ 22 rfl (w.heap.size+1) 5 i0 (.int .u8 0) 1 Tryz.underlying22 HI.out HZ0.out HZ1.out HZ2.out rfl _ _ _ rfl HRB.out.own _ _ _ _ _ rfl (HTL.out _ HRB.out.bel) HNTL.out ?d1 ?d2 ?d3 ?_);try (case d1=>first | (rw [hln.out];unfold maxLen;omega) | (unfold maxLen;omega))
     try (case d2=>first | (rw [hln.out];omega) | omega)
     try (case d3=>omega)
     intro v2 w2 hown2 hg2;have hown3:w2.ownsRow (w.heap.size+1) 5 1 v2 ((R2++List.replicate k (0:Int)).length+m.tl.length) ((R2++List.replicate k (0:Int)).map (Value.int .u8)++m.tl.map (Value.int .u8)):=by
      simpa only [List.map_append,List.map_replicate,List.append_assoc,lZa,List.length_replicate,Nat.add_assoc] using hown2
     have h2:=HRB.out.app hown3 rfl hg2;rw [←HRE.out] at h2;have HR2:=hZz h2;clear hown2 hown3 hg2 h2;go_wp2_with fail;go_meet
     case rel=>exact HR2.out
  ·have hci:¬(0:Int)<m.tl.length:=by omega
   have HRE:Hid (R3=R2):=hZz (by rw [HFP.out,if_neg hc]);clear hc;go_wp2_with fail;go_meet
   case rel=>rw [HRE.out];exact HST.out
theorem xe (x:List Value) (hxl:x.length=479) (m:Sp) (hm:aZ m) (w:World) (B:Nat) (hB:B≤w.heap.size) (nda:Option Addr) (ndc:Nat) (coa:Option Addr) (coc:Nat) (daa:Option Addr) (dac:Nat) (tla:Option Addr) (tlc:Nat) (dfa:Option Addr) (dfc:Nat) (fxa:Option Addr) (fxc:Nat) (hx:(⟨m.k,m.so,⟨nda,m.nd.length,ndc⟩,m.en,⟨coa,m.co.length,coc⟩,⟨daa,m.da.length,dac⟩,m.bs,⟨tla,m.tl.length,tlc⟩,m.tb,⟨dfa,m.df.length,dfc⟩,⟨fxa,m.fx.length,fxc⟩⟩:Spv).Is w B m) (hnil:aC (⟨m.k,m.so,⟨nda,m.nd.length,ndc⟩,m.en,⟨coa,m.co.length,coc⟩,⟨daa,m.da.length,dac⟩,m.bs,⟨tla,m.tl.length,tlc⟩,m.tb,⟨dfa,m.df.length,dfc⟩,⟨fxa,m.fx.length,fxc⟩⟩:Spv)) (Z:Int×List Int) (hZ:Z=if 65536<(au m).length then (13,[]) else (0,au m)) (wz:World) (o:Value) (hst:RB w wz #[.int .i64 m.k,.string m.so,.slice nda m.nd.length ndc,.int .u64 m.en,.slice coa m.co.length coc,.slice daa m.da.length dac,.int .u64 m.bs,.slice tla m.tl.length tlc,.int .u64 m.tb,.slice dfa m.df.length dfc,.slice fxa m.fx.length fxc] o (cM m)) (h1:x.getD 1 undef=.pointer (some ⟨w.heap.size,0,none⟩)) (h20:x.getD 20 undef=.int .u64 (aD m)) (h22:x.getD 22 undef=o) :
 Code.wp Tryz.prog (aq 94 (Tryz.f16.body.getD .skip)) (bodyPost Tryz.prog Tryz.f16 (ah Z w)) ⟨x.toArray,[]⟩ wz:=by
 rw [ap x,hxl];exact vK (fun t=>x.getD t undef) m hm w B hB nda ndc coa coc daa dac tla tlc dfa dfc fxa fxc hx hnil Z hZ wz o hst h1 h20 h22
theorem vH (y:Nat→Value) (m:Sp) (hm:aZ m) (w:World) (B:Nat) (hB:B≤w.heap.size) (nda:Option Addr) (ndc:Nat) (coa:Option Addr) (coc:Nat) (daa:Option Addr) (dac:Nat) (tla:Option Addr) (tlc:Nat) (dfa:Option Addr) (dfc:Nat) (fxa:Option Addr) (fxc:Nat) (hx:(⟨m.k,m.so,⟨nda,m.nd.length,ndc⟩,m.en,⟨coa,m.co.length,coc⟩,⟨daa,m.da.length,dac⟩,m.bs,⟨tla,m.tl.length,tlc⟩,m.tb,⟨dfa,m.df.length,dfc⟩,⟨fxa,m.fx.length,fxc⟩⟩:Spv).Is w B m) (hnil:aC (⟨m.k,m.so,⟨nda,m.nd.length,ndc⟩,m.en,⟨coa,m.co.length,coc⟩,⟨daa,m.da.length,dac⟩,m.bs,⟨tla,m.tl.length,tlc⟩,m.tb,⟨dfa,m.df.length,dfc⟩,⟨fxa,m.fx.length,fxc⟩⟩:Spv)) (Z:Int×List Int) (hZ:Z=if 65536<(au m).length then (13,[]) else (0,au m)) (wz:World) (o:Value) (hst:RB w wz #[.int .i64 m.k,.string m.so,.slice nda m.nd.length ndc,.int .u64 m.en,.slice coa m.co.length coc,.slice daa m.da.length dac,.int .u64 m.bs,.slice tla m.tl.length tlc,.int .u64 m.tb,.slice dfa m.df.length dfc,.slice fxa m.fx.length fxc] o (cr m)) (h1:y 1=.pointer (some ⟨w.heap.size,0,none⟩)) (h20:y 20=.int .u64 (aD m)) (h22:y 22=o) :
 Code.wp Tryz.prog (aq 92 (Tryz.f16.body.getD .skip)) (bodyPost Tryz.prog Tryz.f16 (ah Z w)) ⟨af 479 y,[]⟩ wz:=by
 rw [bY,h1,h20,h22];clear h1 h20 h22;conv=>arg 2;whnf
 obtain ⟨i0,hI,hz0,hz1,hz2⟩:=info_parts aM;have HI:=hZz hI;have HZ0:=hZz hz0;have HZ1:=hZz hz1;have HZ2:=hZz hz2;clear hI hz0 hz1 hz2;have HDA:Hid (∀w1,Below w.heap.size w w1→Bys w1 w.heap.size daa m.da.length m.da):=hZz (fun w1 h1=>(hx.da.more hB).below h1);have HNDA:Hid (daa=none→dac=0):=hZz hnil.da;have p:=hm.places;have sm:=p.small hm;have hsz:=hm.sz;have l1:(dL m).length≤150000:=by have:=eT m;omega
 have hc2:=eY m;have l2:(cr m).length≤300000:=by have:=p.co;split at hc2<;>omega
 have hd2:=eU m;have l3:(cM m).length≤400000:=by have:=p.da;split at hd2<;>omega
 have hdl:=gK m;have htl0:0≤aD m:=by omega
 have htl1:aD m≤300000:=by omega
 have lc:m.co.length≤65536:=by omega
 have ld:m.da.length≤65536:=by omega
 have lt:m.tl.length≤65536:=by omega
 have HRQ:Hid (cM m=if 0<m.da.length then cF (cr m) 256++m.da else cr m):=hZz rfl;have HAFT:Hid (∀(y:Nat→Value) (w9:World) (o9:Value),y 1=.pointer (some ⟨w.heap.size,0,none⟩)→y 20=.int .u64 (aD m)→y 22=o9→RB w w9 #[.int .i64 m.k,.string m.so,.slice nda m.nd.length ndc,.int .u64 m.en,.slice coa m.co.length coc,.slice daa m.da.length dac,.int .u64 m.bs,.slice tla m.tl.length tlc,.int .u64 m.tb,.slice dfa m.df.length dfc,.slice fxa m.fx.length fxc] o9 (cM m)→Code.wp Tryz.prog (aq 94 (Tryz.f16.body.getD .skip)) (bodyPost Tryz.prog Tryz.f16 (ah Z w)) ⟨af 479 y,[]⟩ w9):=hZz (fun y w9 o9 h1 h20 h22 h=>vK y m hm w B hB nda ndc coa coc daa dac tla tlc dfa dfc fxa fxc hx hnil Z hZ w9 o9 h h1 h20 h22);have HAFX:Hid (∀(x:List Value) (w9:World) (o9:Value),x.length=479→x.getD 1 undef=.pointer (some ⟨w.heap.size,0,none⟩)→x.getD 20 undef=.int .u64 (aD m)→x.getD 22 undef=o9→RB w w9 #[.int .i64 m.k,.string m.so,.slice nda m.nd.length ndc,.int .u64 m.en,.slice coa m.co.length coc,.slice daa m.da.length dac,.int .u64 m.bs,.slice tla m.tl.length tlc,.int .u64 m.tb,.slice dfa m.df.length dfc,.slice fxa m.fx.length fxc] o9 (cM m)→Code.wp Tryz.prog (aq 94 (Tryz.f16.body.getD .skip)) (bodyPost Tryz.prog Tryz.f16 (ah Z w)) ⟨x.toArray,[]⟩ w9):=hZz (fun x w9 o9 hxl h1 h20 h22 h=>xe x hxl m hm w B hB nda ndc coa coc daa dac tla tlc dfa dfc fxa fxc hx hnil Z hZ w9 o9 h h1 h20 h22);clear hc2 hd2 p sm hsz hx hnil hZ htl0 htl1 hdl;generalize cM m=R2 at *;generalize cr m=R1 at *;have HST:=hZz hst;have s4:wz.cell? ⟨w.heap.size,5,none⟩=some (.slice daa m.da.length dac):=HST.out.box.cell 5;clear hst;go_upto_if 453 with fail
 by_cases hc:0<m.da.length
 ·have hci:(0:Int)<m.da.length:=by omega
  have HRE:Hid (R2=cF R1 256++m.da):=hZz (by rw [HRQ.out,if_pos hc]);have HFL:=hZz (jI (w.heap.size+1) _ R1.length 256 R1 wz.drew HST.out.drew.own (Nat.succ_le_of_lt HST.out.box.lt) oZm (.inr rfl));have HPL:Hid (R1.length+kj R1.length 256=(cF R1 256).length):=hZz (by unfold cF;rw [lZa,List.length_replicate]);have HLB:Hid ((cF R1 256).length+m.da.length≤1000000):=hZz (by unfold cF kj;rw [lZa,List.length_replicate];omega);rw [decide_eq_true hc];refine wp_cond_true rfl ?_;clear hc;refine cg (by kernel_rfl) 479 rfl [454,455,456,457,458,22] (fun _ _=>True) (aU [Is (o),bD,Is (.pointer (some ⟨w.heap.size,5,none⟩)),Is (.slice daa m.da.length dac),bD,bD]) (JA [1,4,5] [455,458,22] (PFil w wz.drew #[.int .i64 m.k,.string m.so,.slice nda m.nd.length ndc,.int .u64 m.en,.slice coa m.co.length coc,.slice daa m.da.length dac,.int .u64 m.bs,.slice tla m.tl.length tlc,.int .u64 m.tb,.slice dfa m.df.length dfc,.slice fxa m.fx.length fxc] (cF R1 256) R2 455 458)) ?mono93 ?hj93 (by kernel_rfl) ?start93 ?steps93 ?fin93;case mono93=>exact aV (aa (Is.monoR _ _) (aa (bD.monoR _) (aa (Is.monoR _ _) (aa (Is.monoR _ _) (aa (bD.monoR _) (aa (bD.monoR _) (bN _)))))))
  case hj93=>exact JA.congr dZc
  case start93=>
   refine JA.of fun L' y' h1 h2=>?_;exact ⟨HST.out.drew.box,HST.out.drew.bel,fun _=>rfl,(fun h=>by rw [h1 1 (by decide)] at h;cases h),(fun h=>by rw [h1 4 (by decide)] at h;cases h),(fun h=>by rw [h1 5 (by decide)] at h;cases h)⟩
  case fin93=>
   intro y L w9 hJ hall hF hT;have hP:=hJ.out;clear hJ hF;have h4:=hP.c (hall 4 dZc);have h5:=hP.d (hall 5 dZc);rw [←h5] at h4;clear hP h5 hall;rename_i KK hKK;refine hKK _ _ ?_;exact HAFT.out y w9 (y 22) (hT 1 dZc) (hT 20 dZc) rfl h4
  case steps93=>
   refine ⟨?_,?_,?_,?_,?_,?_,trivial⟩;all_goals intro L y w9 hJ hL hy0 hp0 hcl hun
   all_goals have hy:=hZz hy0
   all_goals have hp:=hZz hp0
   all_goals have HJ:=hZz hJ
   all_goals have HP:=hZz hJ.out
   all_goals have hU:=hZz hun
   all_goals clear hy0 hp0 hun hJ
   ·have hN5:L 5=false:=by
     cases h:L 5 with
     | false=>rfl
     | true=>have:=(hcl 1 _ rfl (hcl 4 _ rfl (hcl 5 _ rfl h 4 dZc) 1 dZc) 0 dZc);rw [hL] at this;cases this
    have e1:y 22=o:=hU.out 5 dZc hN5 dZc;intro K Q hK;clear hcl hL;obtain ⟨A,hA,v1⟩:=evA1 (n:=479) e1 dZc;rw [hA] at hK⊢;clear hA hy hp;go_simp;exact hK _ _ ⟨trivial,fun _=>rfl,HJ.out.pure dZc dZc⟩
   ·have e1:y 454=o:=(hp.out 0 dZc).2 dZc;have hN1:L 1=false:=hL;have hN4:L 4=false:=by
     cases h:L 4 with
     | false=>rfl
     | true=>have:=(hcl 4 _ rfl h 1 dZc);rw [hL] at this;cases this
    have hN5:L 5=false:=by
     cases h:L 5 with
     | false=>rfl
     | true=>have:=(hcl 4 _ rfl (hcl 5 _ rfl h 4 dZc) 1 dZc);rw [hL] at this;cases this
    have hw:=HP.out.a hN1;subst hw;intro K Q hK;clear hcl hL;obtain ⟨A,hA,v1⟩:=evA1 (n:=479) e1 dZc;rw [hA] at hK⊢;clear hA hy hp;go_simp;go_at_call 40
    refine HFL.out.mono ?_;rintro r w7 ⟨v7,rfl,ho7,hb7⟩;have h7:=RB.fill HST.out.drew ho7 HPL.out hb7;exact hK _ _ ⟨trivial,fun _=>trivial,JA.step fun L' y' h1 h2 h3 h4=>⟨h7.box,h7.bel,(fun h=>by rw [h2 (by decide)] at h;cases h),(fun _ _=>by rw [show y' 455=_ from h4 (by decide)];exact h7),(fun h=>by rw [h1 4 dZc dZc,hN4] at h;cases h),(fun h=>by rw [h1 5 dZc dZc,hN5] at h;cases h)⟩⟩
   ·have e1:y 1=.pointer (some ⟨w.heap.size,0,none⟩):=hy.out 1 dZc;intro K Q hK;clear hcl hL;obtain ⟨A,hA,v1⟩:=evA1 (n:=479) e1 dZc;rw [hA] at hK⊢;clear hA hy hp;go_simp;exact hK _ _ ⟨trivial,fun _=>rfl,HJ.out.pure dZc dZc⟩
   ·have e1:y 456=.pointer (some ⟨w.heap.size,5,none⟩):=(hp.out 2 dZc).2 dZc;have q5:w9.cell? ⟨w.heap.size,5,none⟩=some (.slice daa m.da.length dac):=HP.out.box.cell 5;intro K Q hK;clear hcl hL;obtain ⟨A,hA,v1⟩:=evA1 (n:=479) e1 dZc;rw [hA] at hK⊢;clear hA hy hp;go_simp;exact hK _ _ ⟨trivial,fun _=>rfl,HJ.out.pure dZc dZc⟩
   ·have hL1:L 1=true:=(hp.out 1 dZc).1;have e2:y 457=.slice daa m.da.length dac:=(hp.out 3 dZc).2 dZc;have hN4:L 4=false:=hL;have hN5:L 5=false:=by
     cases h:L 5 with
     | false=>rfl
     | true=>have:=(hcl 5 _ rfl h 4 dZc);rw [hL] at this;cases this
    have hrb:=HP.out.b hL1 hN4;intro K Q hK;clear hcl hL;have v1:=ax 479 y [] (t:=455) dZc;have v2:=(ax 479 y [] (t:=457) dZc).trans e2;obtain ⟨A,hA⟩:∃A,(⟨af 479 y,[]⟩:Act)=A:=⟨_,rfl⟩
    rw [hA] at v1 v2 hK⊢;clear hA hy hp;refine iv (.tmp 455) (.tmp 457) 22 rfl (w.heap.size+1) 5 i0 (.int .u8 0) 1 Tryz.underlying22 HI.out HZ0.out HZ1.out HZ2.out rfl _ _ _ v1 hrb.own daa m.da.length dac _ m.da v2 (HDA.out _ HP.out.bel) HNDA.out ?_ ?_ ?_ ?_
    ·have h9:=HLB.out;unfold maxLen;omega
    ·have h9:=HLB.out;omega
    ·exact Nat.succ_le_of_lt HP.out.box.lt
    ·intro v8 w8 ho8 hg8;have h8:=hrb.app ho8 rfl hg8;rw [←HRE.out] at h8;exact hK _ _ ⟨trivial,fun _=>trivial,JA.step fun L' y' h1 h2 h3 h4=>⟨h8.box,h8.bel,(fun h=>by rw [h1 1 dZc dZc,hL1] at h;cases h),(fun _ h=>by rw [h2 (by decide)] at h;cases h),(fun _=>by rw [show y' 458=_ from h4 (by decide)];exact h8),(fun h=>by rw [h1 5 dZc dZc,hN5] at h;cases h)⟩⟩
   ·have hL4:L 4=true:=(hp.out 4 dZc).1;have hN5:L 5=false:=hL;have hL1:L 1=true:=hcl 4 _ rfl hL4 1 dZc;have hrb:=HP.out.c hL4;intro K Q hK;clear hcl hL;have v1:=ax 479 y [] (t:=458) dZc;obtain ⟨A,hA⟩:∃A,(⟨af 479 y,[]⟩:Act)=A:=⟨_,rfl⟩
    rw [hA] at v1 hK⊢;clear hA hy hp;simp only [Act.eval] at v1;go_simp;exact hK _ _ ⟨trivial,fun _=>trivial,JA.step fun L' y' h1 h2 h3 h4=>⟨hrb.box,hrb.bel,(fun h=>by rw [h1 1 dZc dZc,hL1] at h;cases h),(fun _ h=>by rw [h1 4 dZc dZc,hL4] at h;cases h),(fun _=>by rw [h3 458 dZc (by decide)];exact hrb),(fun _=>by rw [show y' 22=_ from h4 dZc,h3 458 dZc (by decide)])⟩⟩
 ·have hci:¬(0:Int)<m.da.length:=by omega
  have HRE:Hid (R2=R1):=hZz (by rw [HRQ.out,if_neg hc]);rw [decide_eq_false hc];refine wp_cond_false rfl ?_;refine wp_skip ?_;rename_i KK hKK;refine hKK _ _ ?_;exact HAFX.out _ wz o rfl rfl rfl rfl (by rw [HRE.out];exact HST.out)
theorem wg (x:List Value) (hxl:x.length=479) (m:Sp) (hm:aZ m) (w:World) (B:Nat) (hB:B≤w.heap.size) (nda:Option Addr) (ndc:Nat) (coa:Option Addr) (coc:Nat) (daa:Option Addr) (dac:Nat) (tla:Option Addr) (tlc:Nat) (dfa:Option Addr) (dfc:Nat) (fxa:Option Addr) (fxc:Nat) (hx:(⟨m.k,m.so,⟨nda,m.nd.length,ndc⟩,m.en,⟨coa,m.co.length,coc⟩,⟨daa,m.da.length,dac⟩,m.bs,⟨tla,m.tl.length,tlc⟩,m.tb,⟨dfa,m.df.length,dfc⟩,⟨fxa,m.fx.length,fxc⟩⟩:Spv).Is w B m) (hnil:aC (⟨m.k,m.so,⟨nda,m.nd.length,ndc⟩,m.en,⟨coa,m.co.length,coc⟩,⟨daa,m.da.length,dac⟩,m.bs,⟨tla,m.tl.length,tlc⟩,m.tb,⟨dfa,m.df.length,dfc⟩,⟨fxa,m.fx.length,fxc⟩⟩:Spv)) (Z:Int×List Int) (hZ:Z=if 65536<(au m).length then (13,[]) else (0,au m)) (wz:World) (o:Value) (hst:RB w wz #[.int .i64 m.k,.string m.so,.slice nda m.nd.length ndc,.int .u64 m.en,.slice coa m.co.length coc,.slice daa m.da.length dac,.int .u64 m.bs,.slice tla m.tl.length tlc,.int .u64 m.tb,.slice dfa m.df.length dfc,.slice fxa m.fx.length fxc] o (cr m)) (h1:x.getD 1 undef=.pointer (some ⟨w.heap.size,0,none⟩)) (h20:x.getD 20 undef=.int .u64 (aD m)) (h22:x.getD 22 undef=o) :
 Code.wp Tryz.prog (aq 92 (Tryz.f16.body.getD .skip)) (bodyPost Tryz.prog Tryz.f16 (ah Z w)) ⟨x.toArray,[]⟩ wz:=by
 rw [ap x,hxl];exact vH (fun t=>x.getD t undef) m hm w B hB nda ndc coa coc daa dac tla tlc dfa dfc fxa fxc hx hnil Z hZ wz o hst h1 h20 h22
theorem rb_90 (y:Nat→Value) (m:Sp) (hm:aZ m) (w:World) (B:Nat) (hB:B≤w.heap.size) (nda:Option Addr) (ndc:Nat) (coa:Option Addr) (coc:Nat) (daa:Option Addr) (dac:Nat) (tla:Option Addr) (tlc:Nat) (dfa:Option Addr) (dfc:Nat) (fxa:Option Addr) (fxc:Nat) (hx:(⟨m.k,m.so,⟨nda,m.nd.length,ndc⟩,m.en,⟨coa,m.co.length,coc⟩,⟨daa,m.da.length,dac⟩,m.bs,⟨tla,m.tl.length,tlc⟩,m.tb,⟨dfa,m.df.length,dfc⟩,⟨fxa,m.fx.length,fxc⟩⟩:Spv).Is w B m) (hnil:aC (⟨m.k,m.so,⟨nda,m.nd.length,ndc⟩,m.en,⟨coa,m.co.length,coc⟩,⟨daa,m.da.length,dac⟩,m.bs,⟨tla,m.tl.length,tlc⟩,m.tb,⟨dfa,m.df.length,dfc⟩,⟨fxa,m.fx.length,fxc⟩⟩:Spv)) (Z:Int×List Int) (hZ:Z=if 65536<(au m).length then (13,[]) else (0,au m)) (wz:World) (o:Value) (hst:RB w wz #[.int .i64 m.k,.string m.so,.slice nda m.nd.length ndc,.int .u64 m.en,.slice coa m.co.length coc,.slice daa m.da.length dac,.int .u64 m.bs,.slice tla m.tl.length tlc,.int .u64 m.tb,.slice dfa m.df.length dfc,.slice fxa m.fx.length fxc] o (dL m)) (h1:y 1=.pointer (some ⟨w.heap.size,0,none⟩)) (h20:y 20=.int .u64 (aD m)) (h22:y 22=o) :
 Code.wp Tryz.prog (aq 90 (Tryz.f16.body.getD .skip)) (bodyPost Tryz.prog Tryz.f16 (ah Z w)) ⟨af 479 y,[]⟩ wz:=by
 rw [bY,h1,h20,h22];clear h1 h20 h22;conv=>arg 2;whnf
 obtain ⟨i0,hI,hz0,hz1,hz2⟩:=info_parts aM;have HI:=hZz hI;have HZ0:=hZz hz0;have HZ1:=hZz hz1;have HZ2:=hZz hz2;clear hI hz0 hz1 hz2;have HCO:Hid (∀w1,Below w.heap.size w w1→Bys w1 w.heap.size coa m.co.length m.co):=hZz (fun w1 h1=>(hx.co.more hB).below h1);have HNCO:Hid (coa=none→coc=0):=hZz hnil.co;have p:=hm.places;have sm:=p.small hm;have hsz:=hm.sz;have l1:(dL m).length≤150000:=by have:=eT m;omega
 have hc2:=eY m;have l2:(cr m).length≤300000:=by have:=p.co;split at hc2<;>omega
 have hd2:=eU m;have l3:(cM m).length≤400000:=by have:=p.da;split at hd2<;>omega
 have hdl:=gK m;have htl0:0≤aD m:=by omega
 have htl1:aD m≤300000:=by omega
 have lc:m.co.length≤65536:=by omega
 have ld:m.da.length≤65536:=by omega
 have lt:m.tl.length≤65536:=by omega
 have HRQ:Hid (cr m=if 0<m.co.length then cF (dL m) 256++m.co else dL m):=hZz (by
  unfold cr dv;by_cases c:0<m.co.length
  ·rw [if_pos c,if_pos (decide_eq_true c)]
  ·rw [if_neg c,if_neg (by rw [decide_eq_true_eq];exact c)])
 have HAFT:Hid (∀(y:Nat→Value) (w9:World) (o9:Value),y 1=.pointer (some ⟨w.heap.size,0,none⟩)→y 20=.int .u64 (aD m)→y 22=o9→RB w w9 #[.int .i64 m.k,.string m.so,.slice nda m.nd.length ndc,.int .u64 m.en,.slice coa m.co.length coc,.slice daa m.da.length dac,.int .u64 m.bs,.slice tla m.tl.length tlc,.int .u64 m.tb,.slice dfa m.df.length dfc,.slice fxa m.fx.length fxc] o9 (cr m)→Code.wp Tryz.prog (aq 92 (Tryz.f16.body.getD .skip)) (bodyPost Tryz.prog Tryz.f16 (ah Z w)) ⟨af 479 y,[]⟩ w9):=hZz (fun y w9 o9 h1 h20 h22 h=>vH y m hm w B hB nda ndc coa coc daa dac tla tlc dfa dfc fxa fxc hx hnil Z hZ w9 o9 h h1 h20 h22);have HAFX:Hid (∀(x:List Value) (w9:World) (o9:Value),x.length=479→x.getD 1 undef=.pointer (some ⟨w.heap.size,0,none⟩)→x.getD 20 undef=.int .u64 (aD m)→x.getD 22 undef=o9→RB w w9 #[.int .i64 m.k,.string m.so,.slice nda m.nd.length ndc,.int .u64 m.en,.slice coa m.co.length coc,.slice daa m.da.length dac,.int .u64 m.bs,.slice tla m.tl.length tlc,.int .u64 m.tb,.slice dfa m.df.length dfc,.slice fxa m.fx.length fxc] o9 (cr m)→Code.wp Tryz.prog (aq 92 (Tryz.f16.body.getD .skip)) (bodyPost Tryz.prog Tryz.f16 (ah Z w)) ⟨x.toArray,[]⟩ w9):=hZz (fun x w9 o9 hxl h1 h20 h22 h=>wg x hxl m hm w B hB nda ndc coa coc daa dac tla tlc dfa dfc fxa fxc hx hnil Z hZ w9 o9 h h1 h20 h22);clear hc2 hd2 p sm hsz hx hnil hZ htl0 htl1 hdl;generalize cr m=R1 at *;generalize dL m=R0 at *;have HST:=hZz hst;have s4:wz.cell? ⟨w.heap.size,4,none⟩=some (.slice coa m.co.length coc):=HST.out.box.cell 4;clear hst;go_upto_if 444 with fail
 by_cases hc:0<m.co.length
 ·have hci:(0:Int)<m.co.length:=by omega
  have HRE:Hid (R1=cF R0 256++m.co):=hZz (by rw [HRQ.out,if_pos hc]);have HFL:=hZz (jI (w.heap.size+1) _ R0.length 256 R0 wz.drew HST.out.drew.own (Nat.succ_le_of_lt HST.out.box.lt) oZm (.inr rfl));have HPL:Hid (R0.length+kj R0.length 256=(cF R0 256).length):=hZz (by unfold cF;rw [lZa,List.length_replicate]);have HLB:Hid ((cF R0 256).length+m.co.length≤1000000):=hZz (by unfold cF kj;rw [lZa,List.length_replicate];omega);rw [decide_eq_true hc];refine wp_cond_true rfl ?_;clear hc;refine cg (by kernel_rfl) 479 rfl [445,446,447,448,449,22] (fun _ _=>True) (aU [Is (o),bD,Is (.pointer (some ⟨w.heap.size,4,none⟩)),Is (.slice coa m.co.length coc),bD,bD]) (JA [1,4,5] [446,449,22] (PFil w wz.drew #[.int .i64 m.k,.string m.so,.slice nda m.nd.length ndc,.int .u64 m.en,.slice coa m.co.length coc,.slice daa m.da.length dac,.int .u64 m.bs,.slice tla m.tl.length tlc,.int .u64 m.tb,.slice dfa m.df.length dfc,.slice fxa m.fx.length fxc] (cF R0 256) R1 446 449)) ?mono91 ?hj91 (by kernel_rfl) ?start91 ?steps91 ?fin91;case mono91=>exact aV (aa (Is.monoR _ _) (aa (bD.monoR _) (aa (Is.monoR _ _) (aa (Is.monoR _ _) (aa (bD.monoR _) (aa (bD.monoR _) (bN _)))))))
  case hj91=>exact JA.congr dZc
  case start91=>
   refine JA.of fun L' y' h1 h2=>?_;exact ⟨HST.out.drew.box,HST.out.drew.bel,fun _=>rfl,(fun h=>by rw [h1 1 (by decide)] at h;cases h),(fun h=>by rw [h1 4 (by decide)] at h;cases h),(fun h=>by rw [h1 5 (by decide)] at h;cases h)⟩
  case fin91=>
   intro y L w9 hJ hall hF hT;have hP:=hJ.out;clear hJ hF;have h4:=hP.c (hall 4 dZc);have h5:=hP.d (hall 5 dZc);rw [←h5] at h4;clear hP h5 hall;rename_i KK hKK;refine hKK _ _ ?_;exact HAFT.out y w9 (y 22) (hT 1 dZc) (hT 20 dZc) rfl h4
  case steps91=>
   refine ⟨?_,?_,?_,?_,?_,?_,trivial⟩;all_goals intro L y w9 hJ hL hy0 hp0 hcl hun
   all_goals have hy:=hZz hy0
   all_goals have hp:=hZz hp0
   all_goals have HJ:=hZz hJ
   all_goals have HP:=hZz hJ.out
   all_goals have hU:=hZz hun
   all_goals clear hy0 hp0 hun hJ
   ·have hN5:L 5=false:=by
     cases h:L 5 with
     | false=>rfl
     | true=>have:=(hcl 1 _ rfl (hcl 4 _ rfl (hcl 5 _ rfl h 4 dZc) 1 dZc) 0 dZc);rw [hL] at this;cases this
    have e1:y 22=o:=hU.out 5 dZc hN5 dZc;intro K Q hK;clear hcl hL;obtain ⟨A,hA,v1⟩:=evA1 (n:=479) e1 dZc;rw [hA] at hK⊢;clear hA hy hp;go_simp;exact hK _ _ ⟨trivial,fun _=>rfl,HJ.out.pure dZc dZc⟩
   ·have e1:y 445=o:=(hp.out 0 dZc).2 dZc;have hN1:L 1=false:=hL;have hN4:L 4=false:=by
     cases h:L 4 with
     | false=>rfl
     | true=>have:=(hcl 4 _ rfl h 1 dZc);rw [hL] at this;cases this
    have hN5:L 5=false:=by
     cases h:L 5 with
     | false=>rfl
     | true=>have:=(hcl 4 _ rfl (hcl 5 _ rfl h 4 dZc) 1 dZc);rw [hL] at this;cases this
    have hw:=HP.out.a hN1;subst hw;intro K Q hK;clear hcl hL;obtain ⟨A,hA,v1⟩:=evA1 (n:=479) e1 dZc;rw [hA] at hK⊢;clear hA hy hp;go_simp;go_at_call 40
    refine HFL.out.mono ?_;rintro r w7 ⟨v7,rfl,ho7,hb7⟩;have h7:=RB.fill HST.out.drew ho7 HPL.out hb7;exact hK _ _ ⟨trivial,fun _=>trivial,JA.step fun L' y' h1 h2 h3 h4=>⟨h7.box,h7.bel,(fun h=>by rw [h2 (by decide)] at h;cases h),(fun _ _=>by rw [show y' 446=_ from h4 (by decide)];exact h7),(fun h=>by rw [h1 4 dZc dZc,hN4] at h;cases h),(fun h=>by rw [h1 5 dZc dZc,hN5] at h;cases h)⟩⟩
   ·have e1:y 1=.pointer (some ⟨w.heap.size,0,none⟩):=hy.out 1 dZc;intro K Q hK;clear hcl hL;obtain ⟨A,hA,v1⟩:=evA1 (n:=479) e1 dZc;rw [hA] at hK⊢;clear hA hy hp;go_simp;exact hK _ _ ⟨trivial,fun _=>rfl,HJ.out.pure dZc dZc⟩
   ·have e1:y 447=.pointer (some ⟨w.heap.size,4,none⟩):=(hp.out 2 dZc).2 dZc;have q4:w9.cell? ⟨w.heap.size,4,none⟩=some (.slice coa m.co.length coc):=HP.out.box.cell 4;intro K Q hK;clear hcl hL;obtain ⟨A,hA,v1⟩:=evA1 (n:=479) e1 dZc;rw [hA] at hK⊢;clear hA hy hp;go_simp;exact hK _ _ ⟨trivial,fun _=>rfl,HJ.out.pure dZc dZc⟩
   ·have hL1:L 1=true:=(hp.out 1 dZc).1;have e2:y 448=.slice coa m.co.length coc:=(hp.out 3 dZc).2 dZc;have hN4:L 4=false:=hL;have hN5:L 5=false:=by
     cases h:L 5 with
     | false=>rfl
     | true=>have:=(hcl 5 _ rfl h 4 dZc);rw [hL] at this;cases this
    have hrb:=HP.out.b hL1 hN4;intro K Q hK;clear hcl hL;have v1:=ax 479 y [] (t:=446) dZc;have v2:=(ax 479 y [] (t:=448) dZc).trans e2;obtain ⟨A,hA⟩:∃A,(⟨af 479 y,[]⟩:Act)=A:=⟨_,rfl⟩
    rw [hA] at v1 v2 hK⊢;clear hA hy hp;refine iv (.tmp 446) (.tmp 448) 22 rfl (w.heap.size+1) 5 i0 (.int .u8 0) 1 Tryz.underlying22 HI.out HZ0.out HZ1.out HZ2.out rfl _ _ _ v1 hrb.own coa m.co.length coc _ m.co v2 (HCO.out _ HP.out.bel) HNCO.out ?_ ?_ ?_ ?_
    ·have h9:=HLB.out;unfold maxLen;omega
    ·have h9:=HLB.out;omega
    ·exact Nat.succ_le_of_lt HP.out.box.lt
    ·intro v8 w8 ho8 hg8;have h8:=hrb.app ho8 rfl hg8;rw [←HRE.out] at h8;exact hK _ _ ⟨trivial,fun _=>trivial,JA.step fun L' y' h1 h2 h3 h4=>⟨h8.box,h8.bel,(fun h=>by rw [h1 1 dZc dZc,hL1] at h;cases h),(fun _ h=>by rw [h2 (by decide)] at h;cases h),(fun _=>by rw [show y' 449=_ from h4 (by decide)];exact h8),(fun h=>by rw [h1 5 dZc dZc,hN5] at h;cases h)⟩⟩
   ·have hL4:L 4=true:=(hp.out 4 dZc).1;have hN5:L 5=false:=hL;have hL1:L 1=true:=hcl 4 _ rfl hL4 1 dZc;have hrb:=HP.out.c hL4;intro K Q hK;clear hcl hL;have v1:=ax 479 y [] (t:=449) dZc;obtain ⟨A,hA⟩:∃A,(⟨af 479 y,[]⟩:Act)=A:=⟨_,rfl⟩
    rw [hA] at v1 hK⊢;clear hA hy hp;simp only [Act.eval] at v1;go_simp;exact hK _ _ ⟨trivial,fun _=>trivial,JA.step fun L' y' h1 h2 h3 h4=>⟨hrb.box,hrb.bel,(fun h=>by rw [h1 1 dZc dZc,hL1] at h;cases h),(fun _ h=>by rw [h1 4 dZc dZc,hL4] at h;cases h),(fun _=>by rw [h3 449 dZc (by decide)];exact hrb),(fun _=>by rw [show y' 22=_ from h4 dZc,h3 449 dZc (by decide)])⟩⟩
 ·have hci:¬(0:Int)<m.co.length:=by omega
  have HRE:Hid (R1=R0):=hZz (by rw [HRQ.out,if_neg hc]);rw [decide_eq_false hc];refine wp_cond_false rfl ?_;refine wp_skip ?_;rename_i KK hKK;refine hKK _ _ ?_;exact HAFX.out _ wz o rfl rfl rfl rfl (by rw [HRE.out];exact HST.out)
theorem wS (x:List Value) (hxl:x.length=479) (m:Sp) (hm:aZ m) (w:World) (B:Nat) (hB:B≤w.heap.size) (nda:Option Addr) (ndc:Nat) (coa:Option Addr) (coc:Nat) (daa:Option Addr) (dac:Nat) (tla:Option Addr) (tlc:Nat) (dfa:Option Addr) (dfc:Nat) (fxa:Option Addr) (fxc:Nat) (hx:(⟨m.k,m.so,⟨nda,m.nd.length,ndc⟩,m.en,⟨coa,m.co.length,coc⟩,⟨daa,m.da.length,dac⟩,m.bs,⟨tla,m.tl.length,tlc⟩,m.tb,⟨dfa,m.df.length,dfc⟩,⟨fxa,m.fx.length,fxc⟩⟩:Spv).Is w B m) (hnil:aC (⟨m.k,m.so,⟨nda,m.nd.length,ndc⟩,m.en,⟨coa,m.co.length,coc⟩,⟨daa,m.da.length,dac⟩,m.bs,⟨tla,m.tl.length,tlc⟩,m.tb,⟨dfa,m.df.length,dfc⟩,⟨fxa,m.fx.length,fxc⟩⟩:Spv)) (Z:Int×List Int) (hZ:Z=if 65536<(au m).length then (13,[]) else (0,au m)) (wz:World) (o:Value) (hst:RB w wz #[.int .i64 m.k,.string m.so,.slice nda m.nd.length ndc,.int .u64 m.en,.slice coa m.co.length coc,.slice daa m.da.length dac,.int .u64 m.bs,.slice tla m.tl.length tlc,.int .u64 m.tb,.slice dfa m.df.length dfc,.slice fxa m.fx.length fxc] o (dL m)) (h1:x.getD 1 undef=.pointer (some ⟨w.heap.size,0,none⟩)) (h20:x.getD 20 undef=.int .u64 (aD m)) (h22:x.getD 22 undef=o) :
 Code.wp Tryz.prog (aq 90 (Tryz.f16.body.getD .skip)) (bodyPost Tryz.prog Tryz.f16 (ah Z w)) ⟨x.toArray,[]⟩ wz:=by
 rw [ap x,hxl];exact rb_90 (fun t=>x.getD t undef) m hm w B hB nda ndc coa coc daa dac tla tlc dfa dfc fxa fxc hx hnil Z hZ wz o hst h1 h20 h22
end Go.Proofs.YtclgbdfkdbbinaaGreat
