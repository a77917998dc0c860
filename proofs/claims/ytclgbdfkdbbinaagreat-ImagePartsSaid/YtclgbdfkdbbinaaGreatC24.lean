/-
  What is proved here: words and contracts, a part of those that the statement rests on (C24).
  Conditions: none but that the arguments are values of their types.
-/
import Derived.Test.YtclgbdfkdbbinaaGreatC23
import Derived.Test.YtclgbdfkdbbinaaGreatC20
import Derived.Test.YtclgbdfkdbbinaaGreatC21
import Derived.Test.YtclgbdfkdbbinaaGreatC22
set_option linter.unusedVariables false
set_option linter.unusedSimpArgs false
set_option maxRecDepth 100000
set_option maxHeartbeats 12800000
namespace Go.Proofs.YtclgbdfkdbbinaaGreat
open Go.RowKit
def TellsO (base:Nat) (st:StD) (e:Int) (r:Ending) (w':World):Prop:=
 ∃na nc,r=.returned (.tuple #[infoV na st.nd.length nc st.v,.int .i64 e])∧w'.ownsRow base 24 1 (.slice na st.nd.length nc) st.nd.length (st.nd.map (Value.int .u64))∧(∀n∈st.nd,0≤n∧n≤18446744073709551615)∧st.v.length=7∧∀n∈st.v,0≤n∧n≤18446744073709551615
theorem tellsO_err (base:Nat) (e:Int) (w':World):TellsO base stD0 e (.returned (.tuple #[.agg #[.slice none 0 0,.int .u64 0,.int .u64 0,.int .u64 0,.int .u64 0,.int .u64 0,.int .u64 0,.int .u64 0],.int .i64 e])) w':=
 ⟨none,0,rfl,World.ownsRow_nil _ _ _ _,fun _ h=>(by cases h),rfl,by decide⟩
theorem get5_own (B:Nat) (a:Option Addr) (len cap:Nat) (zs:List Int) (w:World) (hb:Bys w B a len zs) (hB:B≤w.heap.size) (hl:len≤140737488355328) (hc:len≤cap) (hcm:(cap:Int)≤9223372036854775807) :
 Calls Tryz.prog 50 #[.slice a len cap] w fun r w'=>TellsO w.heap.size (getDy zs).2 (getDy zs).1 r w'∧Below w.heap.size w w':=by
 obtain ⟨i1,hj,hy0,hy1,hy2⟩:=info_parts info_u64;have HJ:=Lib.hid hj;have HY0:=Lib.hid hy0;have HY1:=Lib.hid hy1;have HY2:=Lib.hid hy2;have HZB:=Lib.hid hb.2.1;have HZL:=Lib.hid hb.1;obtain ⟨g0,off,HA⟩:∃g0 off,Hid (0<len→a=some ⟨g0,off,none⟩∧g0<B):=by
  by_cases h0:0<len
  ·obtain ⟨b,off,e,h1,_⟩:=hb.2.2 h0;exact ⟨b,off,Lib.hid (fun _=>⟨e,h1⟩)⟩
  ·exact ⟨0,0,Lib.hid (fun h=>absurd h h0)⟩
 have HBY:=Lib.hid hb;have hli:(len:Int)≤140737488355328:=by omega
 obtain ⟨R,hR⟩:∃R,getDy zs=R:=⟨_,rfl⟩
 rw [hR];have HR:=Lib.hid hR;have HW0:Hid (Below w.heap.size w ((w.alloc (.cells #[.slice none 0 0,.int .u64 0,.int .u64 0,.int .u64 0,.int .u64 0,.int .u64 0,.int .u64 0,.int .u64 0] 70)).alloc (.cells #[.slice none 0 0,.int .u64 0,.int .u64 0,.int .u64 0,.int .u64 0,.int .u64 0,.int .u64 0,.int .u64 0] 70))):=Lib.hid (((Below.refl _ _).alloc (Nat.le_refl _) _).alloc (by simp) _);clear hb hj hy0 hy1 hy2 hR;go_enter Tryz.func50,Tryz.ntmps50
 go_wp2_with fail;refine (fieldsOf_any _ _).mono ?_;rintro r w1 ⟨g,rfl,hg,hf,hb1⟩;have HGC0:Hid (GC w1 w.heap.size (w.heap.size+1) g w1.heap.size (.slice none 0 0) stD0 7):=Lib.hid (by
  have hs:=hb1.size;have hgl:=hf.lt;simp only [World.size_alloc] at hg hs hf;refine ⟨((Blk.new w _ _).alloc _).later hb1,?_,hf,World.ownsRow_nil _ _ _ _,stD0_ok,fun _ h=>by simp [stD0] at h,by decide,⟨by omega,by omega,by omega⟩,⟨by omega,by omega,by omega⟩,Nat.le_refl _⟩;have h2:=(Blk.new (w.alloc (.cells #[.slice none 0 0,.int .u64 0,.int .u64 0,.int .u64 0,.int .u64 0,.int .u64 0,.int .u64 0,.int .u64 0] 70)) #[.slice none 0 0,.int .u64 0,.int .u64 0,.int .u64 0,.int .u64 0,.int .u64 0,.int .u64 0,.int .u64 0] 70).later hb1;have h3:Blk w1 (w.heap.size+1) #[.slice none 0 0,.int .u64 0,.int .u64 0,.int .u64 0,.int .u64 0,.int .u64 0,.int .u64 0,.int .u64 0] 70:=by simpa using h2
  exact h3)
 have HB1:=Lib.hid (HW0.out.trans (hb1.mono HW0.out.size));have hgw:w.heap.size≤g:=by simp only [World.size_alloc] at hg;omega
 obtain ⟨X,hX⟩:∃X,w.heap.size+1=X:=⟨_,rfl⟩
 obtain ⟨BB,hBB⟩:∃BB,w1.heap.size=BB:=⟨_,rfl⟩
 rw [hX,hBB] at HGC0;have hXw:w.heap.size≤X:=by omega
 clear hg hf hb1;simp only [World.size_alloc,hX];go_wp2;go_loopw [0] (fun b wr=>∃(k m cp:Nat) (ad:Option Addr) (nd:Value) (st:StD) (n:Nat),b=.slice ad m cp∧16*k+m=len∧16*k+cp=cap∧(16≤m→ad=some ⟨g0,off+16*k,none⟩)∧n≤7+k∧st.nd.length≤k∧GC wr w.heap.size X g BB nd st n∧outD zs (zs.length+1-k) k st=R∧Below w.heap.size w wr) (fun b _=>slen b)
 case atStart=>exact ⟨0,len,cap,a,_,stD0,7,rfl,by omega,by omega,fun h=>(HA.out (by omega)).1,by omega,Nat.le_refl _,HGC0.out,HR.out,HB1.out⟩
 case round=>
  obtain ⟨k,m,cp,ad,nd,st,n,rfl,hm,hcp,had,hnk,hnd,hgs,hout,hbel⟩:=hrel;have HGS:=Lib.hid hgs;have HBE:=Lib.hid hbel;have hzl:=HZL.out;by_cases hsh:m<16
  ·have hr:=out_short (zs:=zs) (k:=k) (s:=st) (by omega) (by omega);rw [hout] at hr;subst hr;obtain ⟨q0,q1,q2,q3,q4,q5,q6,q7⟩:=c8 hgs.res;obtain ⟨f0,f1,f2,f3,f4,f5,f6,f7⟩:=f8 hgs.res;have hmi:(m:Int)<16:=by omega
   clear hgs hout hbel HR hzl had;go_wp2;refine bodyPost_ret (v:=.tuple #[.agg #[.slice none 0 0,.int .u64 0,.int .u64 0,.int .u64 0,.int .u64 0,.int .u64 0,.int .u64 0,.int .u64 0],.int .i64 10]) (by simp [results,Tryz.results50,go_sem,q0,q1,q2,q3,q4,q5,q6,q7]) rfl ⟨tellsO_err _ _ _,below_eight HBE.out (Nat.le_refl _) _ _ _ _ _ _ _ _⟩
  ·obtain rfl:=had (by omega);have hmi:¬(m:Int)<16:=by omega
   have hmi2:(16:Int)≤m:=by omega
   have hcpi:(m:Int)≤cp:=by omega
   have hcpm:(cp:Int)≤9223372036854775807:=by omega
   have hrd:16*k+16≤zs.length:=by omega
   have HBYW:Hid (Bys wr B (some ⟨g0,off+16*k,none⟩) m (piece zs (16*k) m)):=Lib.hid (by
    have h:=HBY.out.below (hbel.mono hB);rw [(HA.out (by omega)).1] at h;exact h.sub (by omega))
   have HG1:Hid (Calls Tryz.prog 97 #[.slice (some ⟨g0,off+16*k,none⟩) m cp,.int .u64 0] wr fun e w'=>e=.returned (.int .u64 (tagAt zs k))∧wr=w'):=Lib.hid (by
    have h:=k5_read_ok B _ m cp _ 0 wr HBYW.out (by omega) (by omega);rw [k5_piece_piece (by omega)] at h;exact h)
   have HG2:Hid (Calls Tryz.prog 97 #[.slice (some ⟨g0,off+16*k,none⟩) m cp,.int .u64 8] wr fun e w'=>e=.returned (.int .u64 (valAt zs k))∧wr=w'):=Lib.hid (by
    have h:=k5_read_ok B _ m cp _ 8 wr HBYW.out (by omega) (by omega);rw [k5_piece_piece (by omega)] at h;exact h)
   have htb:=tagAt_bd (k:=k) HZB.out hrd;have hvb:=valAt_bd (k:=k) HZB.out hrd;have HEND:=Lib.hid (fun h=>(out_end (s:=st) hrd h).symm.trans hout);have HNEED:=Lib.hid (fun h=>(out_need (s:=st) hrd h).symm.trans hout);have HFORM:=Lib.hid (fun h0 h1 hi=>(out_form (s:=st) hrd h0 h1 hi).symm.trans hout);have HOVER:=Lib.hid (fun i h0 h1 hi hs=>(out_over (i:=i) (s:=st) hrd h0 h1 hi hs).symm.trans hout);have HSET:=Lib.hid (fun i h0 h1 hi hs=>(out_set (i:=i) (s:=st) hrd h0 h1 hi hs).symm.trans hout);generalize tagAt zs k=t at HG1 htb HEND HNEED HFORM HOVER HSET;generalize valAt zs k=x at HG2 hvb HEND HNEED HFORM HOVER HSET;have HXB:=Lib.hid hvb;clear hout hbel HR hzl had HBYW hrd;by_cases t0:t=0
   ·subst t0;have hend:=HEND.out rfl;have HWH:=Lib.hid (whole_any g X n st wr hgs.map);obtain ⟨x0,x1,x2,x3,x4,x5,x6,hv⟩:=list7 hgs.ok.v;clear HEND HNEED HFORM HOVER HSET hgs;by_cases hw:wholeD st=true
    ·rw [if_pos hw] at hend;subst hend;rw [hw] at HWH;obtain ⟨na,nc,rfl⟩:=own_slice HGS.out.own;go_wp2_with (first | (go_at_call 97;with_reducible refine HG1.out.mono ?_;rintro e w' ⟨rfl,rfl⟩) | (go_at_call 97;with_reducible refine HG2.out.mono ?_;rintro e w' ⟨rfl,rfl⟩));refine HWH.out.mono ?_;rintro r w3 ⟨rfl,hb3⟩;have HGS3:=Lib.hid (HGS.out.call hb3);have HB3:=Lib.hid (HBE.out.trans (hb3.mono HBE.out.size));have hbx:=HGS3.out.box;rw [hv] at hbx;obtain ⟨p0,p1,p2,p3,p4,p5,p6,p7⟩:=c8 hbx;obtain ⟨q0,q1,q2,q3,q4,q5,q6,q7⟩:=c8 HGS3.out.res;obtain ⟨f0,f1,f2,f3,f4,f5,f6,f7⟩:=f8 HGS3.out.res;clear hb3 hbx;go_wp2;refine bodyPost_ret (v:=.tuple #[.agg #[.slice na st.nd.length nc,.int .u64 x0,.int .u64 x1,.int .u64 x2,.int .u64 x3,.int .u64 x4,.int .u64 x5,.int .u64 x6],.int .i64 0]) (by simp [results,Tryz.results50,go_sem,q0,q1,q2,q3,q4,q5,q6,q7]) rfl ⟨⟨na,nc,?_,own_base (own_eight (base:=0) HGS3.out.own HGS3.out.lt.1 _ _ _ _ _ _ _ _) (Nat.le_of_lt HGS3.out.lt.1),HGS3.out.bd,HGS3.out.ok.v,HGS3.out.bv⟩,below_eight HB3.out (Nat.le_refl _) _ _ _ _ _ _ _ _⟩;rw [hv];rfl
    ·have hw':wholeD st=false:=by simpa using hw
     rw [if_neg hw] at hend;subst hend;rw [hw'] at HWH;go_wp2_with (first | (go_at_call 97;with_reducible refine HG1.out.mono ?_;rintro e w' ⟨rfl,rfl⟩) | (go_at_call 97;with_reducible refine HG2.out.mono ?_;rintro e w' ⟨rfl,rfl⟩));refine HWH.out.mono ?_;rintro r w3 ⟨rfl,hb3⟩;have HGS3:=Lib.hid (HGS.out.call hb3);have HB3:=Lib.hid (HBE.out.trans (hb3.mono HBE.out.size));obtain ⟨q0,q1,q2,q3,q4,q5,q6,q7⟩:=c8 HGS3.out.res;obtain ⟨f0,f1,f2,f3,f4,f5,f6,f7⟩:=f8 HGS3.out.res;clear hb3;go_wp2;refine bodyPost_ret (v:=.tuple #[.agg #[.slice none 0 0,.int .u64 0,.int .u64 0,.int .u64 0,.int .u64 0,.int .u64 0,.int .u64 0,.int .u64 0],.int .i64 11]) (by simp [results,Tryz.results50,go_sem,q0,q1,q2,q3,q4,q5,q6,q7]) rfl ⟨tellsO_err _ _ _,below_eight HB3.out (Nat.le_refl _) _ _ _ _ _ _ _ _⟩
   ·by_cases t1:t=1
    ·subst t1;have hn:=HNEED.out rfl;have HOWN:=Lib.hid hgs.own;have hbx0:=hgs.box.cell 0;have hcf0:=hgs.box.frozen 0;have hbx0':wr.cell? ⟨X,0,none⟩=some nd:=by rw [hbx0];rfl
     clear HEND HNEED HFORM HOVER HSET hgs hbx0;go_wp2_with (first | (go_at_call 97;with_reducible refine HG1.out.mono ?_;rintro e w' ⟨rfl,rfl⟩) | (go_at_call 97;with_reducible refine HG2.out.mono ?_;rintro e w' ⟨rfl,rfl⟩) | (at_builtin;refine wpList_append_own _ rfl _ _ 68 rfl BB 24 i1 (.int .u64 0) 1 8 Tryz.underlying68 HJ.out HY0.out HY1.out HY2.out rfl (by decide) _ st.nd.length _ rfl (HOWN.out.alloc _) ⟨wr.heap.size,0,none⟩ 1 1 [.int .u64 x] rfl rfl ?e1 ?e2 ?e3 ?e4 ?e5 ?_));case e1=>exact cell_one_new _ _ _
     case e2=>intro u hu;obtain rfl:=List.mem_singleton.1 hu;rfl
     case e3=>unfold maxLen;omega
     case e4=>omega
     case e5=>have:=HGS.out.big;simp;omega
     intro v4 w4 hown4 hg4 _;obtain ⟨ua4,uc4,rfl⟩:=own_slice hown4;have hga:=HGS.out.call ((Below.refl _ _).alloc (Nat.le_refl wr.heap.size) (.cells #[.int .u64 x] 24));have hbx:=hga.box.grown hg4 (fun e=>by have:=(HOWN.out.lt X e.symm).1;have:=HGS.out.lt.2.1;omega);have c0:=hbx.cell 0;have c0':w4.cell? ⟨X,0,none⟩=some nd:=by rw [c0];rfl
     have z0:=hbx.frozen 0;have HGN:=Lib.hid (hga.need HXB.out hg4 hown4);have HB4:Hid (Below w.heap.size w w4):=Lib.hid ((HBE.out.alloc HBE.out.size _).grown hg4 (by have:=HBE.out.size;simp;omega) (fun q e=>by have:=(HOWN.out.lt q e).1;have:=HGS.out.lt.1;omega));have HN:=Lib.hid hn;clear hown4 hg4 hga hbx hn c0 hbx0' hcf0;go_wp2;go_roundw
     case rel=>exact ⟨k+1,m-16,cp-16,_,_,_,n,rfl,by omega,by omega,fun h=>by rw [if_neg (by omega),show off+16*k+16=off+16*(k+1) by omega],by omega,by simp;omega,HGN.out,HN.out,HB4.out.setCell hXw _⟩
     case measure=>(simp [slen]<;>omega)
    ·have t0':(t==0)=false:=by simpa using t0
     have t1':(t==1)=false:=by simpa using t1
     cases hix:idxD t with
     | none=>
       have hr:=HFORM.out t0 t1 hix;subst hr;have HFI:=Lib.hid (fill_form g X n st.seen t x wr htb hgs.map hix);obtain ⟨q0,q1,q2,q3,q4,q5,q6,q7⟩:=c8 hgs.res;obtain ⟨f0,f1,f2,f3,f4,f5,f6,f7⟩:=f8 hgs.res;clear HEND HNEED HFORM HOVER HSET hgs;go_wp2_with (first | (go_at_call 97;with_reducible refine HG1.out.mono ?_;rintro e w' ⟨rfl,rfl⟩) | (go_at_call 97;with_reducible refine HG2.out.mono ?_;rintro e w' ⟨rfl,rfl⟩) | (go_at_call 99;with_reducible refine HFI.out.mono ?_;rintro e w' ⟨rfl,rfl⟩));refine bodyPost_ret (v:=.tuple #[.agg #[.slice none 0 0,.int .u64 0,.int .u64 0,.int .u64 0,.int .u64 0,.int .u64 0,.int .u64 0,.int .u64 0],.int .i64 11]) (by simp [results,Tryz.results50,go_sem,q0,q1,q2,q3,q4,q5,q6,q7]) rfl ⟨tellsO_err _ _ _,below_eight HBE.out (Nat.le_refl _) _ _ _ _ _ _ _ _⟩
     | some i=>
       obtain ⟨hi7,-⟩:=idxD_lt hix;cases hsn:st.seen.getD i false with
       | true=>
         have hr:=HOVER.out i t0 t1 hix hsn;subst hr;have HFI:=Lib.hid (fill_over g X n st.seen t x i wr htb hgs.map hix hsn);obtain ⟨q0,q1,q2,q3,q4,q5,q6,q7⟩:=c8 hgs.res;obtain ⟨f0,f1,f2,f3,f4,f5,f6,f7⟩:=f8 hgs.res;clear HEND HNEED HFORM HOVER HSET hgs hsn hix;go_wp2_with (first | (go_at_call 97;with_reducible refine HG1.out.mono ?_;rintro e w' ⟨rfl,rfl⟩) | (go_at_call 97;with_reducible refine HG2.out.mono ?_;rintro e w' ⟨rfl,rfl⟩) | (go_at_call 99;with_reducible refine HFI.out.mono ?_;rintro e w' ⟨rfl,rfl⟩));refine bodyPost_ret (v:=.tuple #[.agg #[.slice none 0 0,.int .u64 0,.int .u64 0,.int .u64 0,.int .u64 0,.int .u64 0,.int .u64 0,.int .u64 0],.int .i64 12]) (by simp [results,Tryz.results50,go_sem,q0,q1,q2,q3,q4,q5,q6,q7]) rfl ⟨tellsO_err _ _ _,below_eight HBE.out (Nat.le_refl _) _ _ _ _ _ _ _ _⟩
       | false=>
         have HN:=Lib.hid (HSET.out i t0 t1 hix hsn);obtain ⟨cx,fx⟩:=hgs.cells hi7;have HFI:=Lib.hid (fill_ok g X n st.seen t x i wr _ htb hgs.map (fun e=>hgs.ne.2.2 e.symm) (by unfold maxLen;omega) hgs.ok.seen hix hsn cx fx);clear HEND HNEED HFORM HOVER HSET hgs hsn hix cx fx;go_wp2_with (first | (go_at_call 97;with_reducible refine HG1.out.mono ?_;rintro e w' ⟨rfl,rfl⟩) | (go_at_call 97;with_reducible refine HG2.out.mono ?_;rintro e w' ⟨rfl,rfl⟩));refine HFI.out.mono ?_;rintro r w4 ⟨rfl,hm4,hg4⟩;have HGP:=Lib.hid (HGS.out.put HXB.out hm4 hg4);have HB4:Hid (Below w.heap.size w w4):=Lib.hid ((Below.setCell HBE.out (show w.heap.size≤(⟨X,i+1,none⟩:Addr).block from hXw) (.int .u64 x)).grown hg4 (by have:=HBE.out.size;rw [World.size_setCell];exact this) (fun q e=>by injection e with e;omega));clear hm4 hg4;go_wp2;go_roundw
         case rel=>exact ⟨k+1,m-16,cp-16,_,_,_,n+1,rfl,by omega,by omega,fun h=>by rw [if_neg (by omega),show off+16*k+16=off+16*(k+1) by omega],by omega,by show st.nd.length≤k+1;omega,HGP.out,HN.out,HB4.out⟩
         case measure=>(simp [slen]<;>omega)
def entsL:List (Pm→Int×Pm):=[tableI,soI,ndI,yI,nmI,rI]
def dynI (m:Pm):Int×Pm:=
 match m.m.sg.find? (kindB 2) with
 | none=>(0,m)
 | some d=>if (getDy (cutI m.m.zs d.ot d.fi).2).1≠0 then ((getDy (cutI m.m.zs d.ot d.fi).2).1,m)
   else let D:=(getDy (cutI m.m.zs d.ot d.fi).2).2
    runI entsL { m with N:=D.nd,so:=D.v.getD 0 0,st:=D.v.getD 1 0,sz:=D.v.getD 2 0,yt:=D.v.getD 3 0,yn:=D.v.getD 4 0,rt:=D.v.getD 5 0,rz:=D.v.getD 6 0 }
def entsP (q:Nat) (m:Pm):Prop:=if q≤2 then m.m.nd=[]∧m.m.nm=[] else if q≤4 then m.m.nm=[] else True
theorem entsP_next (q:Nat) (m:Pm) (hq:q<6) (h:entsP q m) (h0:((entsL.getD q fun m=>(0,m)) m).1=0):entsP (q+1) ((entsL.getD q fun m=>(0,m)) m).2:=by
 have hq:q=0∨q=1∨q=2∨q=3∨q=4∨q=5:=by omega
 rcases hq with rfl | rfl | rfl | rfl | rfl | rfl
 ·show entsP 1 (tableI m).2;unfold tableI;split<;>exact h
 ·show entsP 2 (soI m).2;unfold soI;split<;>exact h
 ·show entsP 3 (ndI m).2;unfold ndI;have h:m.m.nd=[]∧m.m.nm=[]:=h;split<;>exact h.2
 ·show entsP 4 (yI m).2;unfold yI;have h:m.m.nm=[]:=h
  dsimp only
  repeat' split
  all_goals exact h
 ·exact trivial
 ·exact trivial
theorem ents_ok (g:Nat) (q:Nat) (hq:q<6):StepAt g ([51,52,53,54,55,56].getD q 0) (entsP q) (entsL.getD q fun m=>(0,m)):=by
 have hq:q=0∨q=1∨q=2∨q=3∨q=4∨q=5:=by omega
 rcases hq with rfl | rfl | rfl | rfl | rfl | rfl
 ·exact (table9_ok g).at' _
 ·exact (so9_ok g).at' _
 ·exact fun p m w h=>nd9_ok g p m w h.1
 ·exact (y9_ok g).at' _
 ·exact fun p m w h=>nm9_ok g p m w h
 ·exact (r9_ok g).at' _
theorem Blk.info9 {w:World} {g:Nat} {c0 c1 c2 c3 c4 c5 c6 c7 c8 c9 c10 c11 c12 c13 c14 c15 c16 c17 c18 c19 c20:Value} {t:TypeId} (h:Blk w g #[c0,c1,c2,c3,c4,c5,c6,c7,c8,c9,c10,c11,c12,c13,c14,c15,c16,c17,c18,c19,c20] t) (u0 u1 u2 u3 u4 u5 u6 u7:Value):Blk ((((((((w.setCell ⟨g,12,none⟩ u0).setCell ⟨g,13,none⟩ u1).setCell ⟨g,14,none⟩ u2).setCell ⟨g,15,none⟩ u3).setCell ⟨g,16,none⟩ u4).setCell ⟨g,17,none⟩ u5).setCell ⟨g,18,none⟩ u6).setCell ⟨g,19,none⟩ u7) g #[c0,c1,c2,c3,c4,c5,c6,c7,c8,c9,c10,c11,u0,u1,u2,u3,u4,u5,u6,u7,c20] t:=by
 have h0:Blk (w.setCell ⟨g,12,none⟩ u0) g #[c0,c1,c2,c3,c4,c5,c6,c7,c8,c9,c10,c11,u0,c13,c14,c15,c16,c17,c18,c19,c20] t:=by have q:=h.set 12 u0;exact q
 have h1:Blk ((w.setCell ⟨g,12,none⟩ u0).setCell ⟨g,13,none⟩ u1) g #[c0,c1,c2,c3,c4,c5,c6,c7,c8,c9,c10,c11,u0,u1,c14,c15,c16,c17,c18,c19,c20] t:=by have q:=h0.set 13 u1;exact q
 have h2:Blk (((w.setCell ⟨g,12,none⟩ u0).setCell ⟨g,13,none⟩ u1).setCell ⟨g,14,none⟩ u2) g #[c0,c1,c2,c3,c4,c5,c6,c7,c8,c9,c10,c11,u0,u1,u2,c15,c16,c17,c18,c19,c20] t:=by have q:=h1.set 14 u2;exact q
 have h3:Blk ((((w.setCell ⟨g,12,none⟩ u0).setCell ⟨g,13,none⟩ u1).setCell ⟨g,14,none⟩ u2).setCell ⟨g,15,none⟩ u3) g #[c0,c1,c2,c3,c4,c5,c6,c7,c8,c9,c10,c11,u0,u1,u2,u3,c16,c17,c18,c19,c20] t:=by have q:=h2.set 15 u3;exact q
 have h4:Blk (((((w.setCell ⟨g,12,none⟩ u0).setCell ⟨g,13,none⟩ u1).setCell ⟨g,14,none⟩ u2).setCell ⟨g,15,none⟩ u3).setCell ⟨g,16,none⟩ u4) g #[c0,c1,c2,c3,c4,c5,c6,c7,c8,c9,c10,c11,u0,u1,u2,u3,u4,c17,c18,c19,c20] t:=by have q:=h3.set 16 u4;exact q
 have h5:Blk ((((((w.setCell ⟨g,12,none⟩ u0).setCell ⟨g,13,none⟩ u1).setCell ⟨g,14,none⟩ u2).setCell ⟨g,15,none⟩ u3).setCell ⟨g,16,none⟩ u4).setCell ⟨g,17,none⟩ u5) g #[c0,c1,c2,c3,c4,c5,c6,c7,c8,c9,c10,c11,u0,u1,u2,u3,u4,u5,c18,c19,c20] t:=by have q:=h4.set 17 u5;exact q
 have h6:Blk (((((((w.setCell ⟨g,12,none⟩ u0).setCell ⟨g,13,none⟩ u1).setCell ⟨g,14,none⟩ u2).setCell ⟨g,15,none⟩ u3).setCell ⟨g,16,none⟩ u4).setCell ⟨g,17,none⟩ u5).setCell ⟨g,18,none⟩ u6) g #[c0,c1,c2,c3,c4,c5,c6,c7,c8,c9,c10,c11,u0,u1,u2,u3,u4,u5,u6,c19,c20] t:=by have q:=h5.set 18 u6;exact q
 have h7:Blk ((((((((w.setCell ⟨g,12,none⟩ u0).setCell ⟨g,13,none⟩ u1).setCell ⟨g,14,none⟩ u2).setCell ⟨g,15,none⟩ u3).setCell ⟨g,16,none⟩ u4).setCell ⟨g,17,none⟩ u5).setCell ⟨g,18,none⟩ u6).setCell ⟨g,19,none⟩ u7) g #[c0,c1,c2,c3,c4,c5,c6,c7,c8,c9,c10,c11,u0,u1,u2,u3,u4,u5,u6,u7,c20] t:=by have q:=h6.set 19 u7;exact q
 exact h7
theorem Kq.info9 (g:Nat) (w:World) (u0 u1 u2 u3 u4 u5 u6 u7:Value):Kq g w ((((((((w.setCell ⟨g,12,none⟩ u0).setCell ⟨g,13,none⟩ u1).setCell ⟨g,14,none⟩ u2).setCell ⟨g,15,none⟩ u3).setCell ⟨g,16,none⟩ u4).setCell ⟨g,17,none⟩ u5).setCell ⟨g,18,none⟩ u6).setCell ⟨g,19,none⟩ u7):=
 ((((((((Kq.refl g w).set 12 u0).set 13 u1).set 14 u2).set 15 u3).set 16 u4).set 17 u5).set 18 u6).set 19 u7
theorem info9_st {g:Nat} {w4:World} {p:Pz} {m:Pm} (h:Ps9 g w4 p m) (o:Obj) (na:Option Addr) (nn nc:Nat) (N:List Int) (x0 x1 x2 x3 x4 x5 x6:Int) (hn:N.length=nn) (ho:w4.ownsRow (g+1) 24 1 (.slice na nn nc) nn (N.map (Value.int .u64))) (hb:∀n∈N,0≤n∧n≤18446744073709551615) (hl:N.length≤65537) (hx:∀n∈[x0,x1,x2,x3,x4,x5,x6],0≤n∧n≤18446744073709551615) :
 Ps9 g (((((((((w4.setCell ⟨g,12,none⟩ (.slice na nn nc)).setCell ⟨g,13,none⟩ (.int .u64 x0)).setCell ⟨g,14,none⟩ (.int .u64 x1)).setCell ⟨g,15,none⟩ (.int .u64 x2)).setCell ⟨g,16,none⟩ (.int .u64 x3)).setCell ⟨g,17,none⟩ (.int .u64 x4)).setCell ⟨g,18,none⟩ (.int .u64 x5)).setCell ⟨g,19,none⟩ (.int .u64 x6)).alloc o)
  { p with nd:=⟨na,nn,nc⟩,so:=x0,st:=x1,sz:=x2,yt:=x3,yn:=x4,rt:=x5,rz:=x6 } { m with N:=N,so:=x0,st:=x1,sz:=x2,yt:=x3,yn:=x4,rt:=x5,rz:=x6 }∧
 Kq g w4 (((((((((w4.setCell ⟨g,12,none⟩ (.slice na nn nc)).setCell ⟨g,13,none⟩ (.int .u64 x0)).setCell ⟨g,14,none⟩ (.int .u64 x1)).setCell ⟨g,15,none⟩ (.int .u64 x2)).setCell ⟨g,16,none⟩ (.int .u64 x3)).setCell ⟨g,17,none⟩ (.int .u64 x4)).setCell ⟨g,18,none⟩ (.int .u64 x5)).setCell ⟨g,19,none⟩ (.int .u64 x6)).alloc o):=by
 have hk:=(Kq.info9 g w4 (.slice na nn nc) (.int .u64 x0) (.int .u64 x1) (.int .u64 x2) (.int .u64 x3) (.int .u64 x4) (.int .u64 x5) (.int .u64 x6)).alloc (by have:=h.lt;simp;omega) o;have hbx:=(h.box.info9 (.slice na nn nc) (.int .u64 x0) (.int .u64 x1) (.int .u64 x2) (.int .u64 x3) (.int .u64 x4) (.int .u64 x5) (.int .u64 x6)).alloc o;revert hk hbx;generalize (((((((((w4.setCell ⟨g,12,none⟩ (.slice na nn nc)).setCell ⟨g,13,none⟩ (.int .u64 x0)).setCell ⟨g,14,none⟩ (.int .u64 x1)).setCell ⟨g,15,none⟩ (.int .u64 x2)).setCell ⟨g,16,none⟩ (.int .u64 x3)).setCell ⟨g,17,none⟩ (.int .u64 x4)).setCell ⟨g,18,none⟩ (.int .u64 x5)).setCell ⟨g,19,none⟩ (.int .u64 x6)).alloc o)=w5;intro hk hbx;have hr:=h.row.kp hk.kp (Nat.lt_succ_self _);have hN:w5.ownsRow (g+1) 24 1 (.slice na nn nc) N.length (N.map (Value.int .u64)):=by rw [hn];exact own_kp hk.kp ho (Nat.lt_succ_self _)
 refine ⟨h.next hk hbx ?_ rfl rfl,hk⟩;exact ⟨hr.k,hr.e,hr.s,hr.c,hr.so,hr.sg,hr.nd,hr.nm,hr.sy,hr.rl,hr.zs,hN,hr.t,hr.oks,hr.oky,hr.okr,hr.okz,hb,hr.okt,hr.lz,hl,hr.ly,hr.bs,⟨rfl,hx _ (by simp)⟩,⟨rfl,hx _ (by simp)⟩,⟨rfl,hx _ (by simp)⟩,⟨rfl,hx _ (by simp)⟩,⟨rfl,hx _ (by simp)⟩,⟨rfl,hx _ (by simp)⟩,⟨rfl,hx _ (by simp)⟩,hr.zd,hr.zn⟩
theorem ents_run (g:Nat) (w W:World) (p:Pz) (m:Pm) (h1:Ps9 g W p m) (h2:Kq g w W) (hm:m.m.nd=[]∧m.m.nm=[]) :
 Calls Tryz.prog 18 #[.slice (some ⟨W.heap.size,0,none⟩) 6 6] (W.alloc (.cells #[.func (.func 51) #[.pointer (some ⟨g,0,none⟩)] #[],.func (.func 52) #[.pointer (some ⟨g,0,none⟩)] #[],.func (.func 53) #[.pointer (some ⟨g,0,none⟩)] #[],.func (.func 54) #[.pointer (some ⟨g,0,none⟩)] #[],.func (.func 55) #[.pointer (some ⟨g,0,none⟩)] #[],.func (.func 56) #[.pointer (some ⟨g,0,none⟩)] #[]] 74)) fun r w'=>r=.returned (.int .i64 (runI entsL m).1)∧((runI entsL m).1=0→∃p,Ps9 g w' p (runI entsL m).2)∧Kq g w w':=by
 have h3:=h1.lt;have h4:=inOrder_any g W.heap.size 6 [51,52,53,54,55,56] entsL #[.func (.func 51) #[.pointer (some ⟨g,0,none⟩)] #[],.func (.func 52) #[.pointer (some ⟨g,0,none⟩)] #[],.func (.func 53) #[.pointer (some ⟨g,0,none⟩)] #[],.func (.func 54) #[.pointer (some ⟨g,0,none⟩)] #[],.func (.func 55) #[.pointer (some ⟨g,0,none⟩)] #[],.func (.func 56) #[.pointer (some ⟨g,0,none⟩)] #[]] 74 p m _ (h1.alloc (.cells #[.func (.func 51) #[.pointer (some ⟨g,0,none⟩)] #[],.func (.func 52) #[.pointer (some ⟨g,0,none⟩)] #[],.func (.func 53) #[.pointer (some ⟨g,0,none⟩)] #[],.func (.func 54) #[.pointer (some ⟨g,0,none⟩)] #[],.func (.func 55) #[.pointer (some ⟨g,0,none⟩)] #[],.func (.func 56) #[.pointer (some ⟨g,0,none⟩)] #[]] 74)) (Blk.new W _ _) (by omega) rfl (by omega)
  (fun q hq=>by
   have hq:q=0∨q=1∨q=2∨q=3∨q=4∨q=5:=by omega
   rcases hq with rfl | rfl | rfl | rfl | rfl | rfl<;>rfl)
  (fun q hq=>by
   have hq:q=0∨q=1∨q=2∨q=3∨q=4∨q=5:=by omega
   rcases hq with rfl | rfl | rfl | rfl | rfl | rfl<;>decide)
  entsP hm entsP_next (ents_ok g)
 exact h4.mono fun r w' h=>⟨h.1,h.2.1,(h2.alloc (Nat.le_of_lt h3) _).trans h.2.2⟩
theorem dyn9_ok (g:Nat):StepAt g 22 (fun m=>m.m.nd=[]∧m.m.nm=[]) dynI:=by
 intro p m w hpre h;have H:=Lib.hid h;have hgl:=h.lt;have HPRE:=Lib.hid hpre;have q4:w.cell? ⟨g,4,none⟩=some (.slice p.x.sg.a p.x.sg.n p.x.sg.c):=h.box.cell 4;obtain ⟨Z,hZ⟩:∃Z,dynI m=Z:=⟨_,rfl⟩
 have HZ:=Lib.hid hZ;rw [hZ];have HFD:Hid (Calls Tryz.prog 48 #[.slice p.x.sg.a p.x.sg.n p.x.sg.c,.int .u32 2] w fun r w2=>r=.returned (.tuple #[foundV (m.m.sg.find? (kindB 2)),.bool (m.m.sg.find? (kindB 2)).isSome])∧Below w.heap.size w w2):=Lib.hid (by
  have h4:=h.seg;exact sfind_any w.heap.size _ _ _ m.m.sg 2 w h4.1 (Nat.le_refl _) (by have h5:=h4.2.1;have h6:=h4.2.2;omega))
 have HDO:Hid (∀d,m.m.sg.find? (kindB 2)=some d→d.Ok):=Lib.hid (fun d hd=>h.row.oks d (List.mem_of_find?_eq_some hd));have hzl:p.x.zs.n≤65536:=h.bys.2.2.2;obtain ⟨p,hp⟩:∃q:Pz,q=p:=⟨_,rfl⟩
 obtain ⟨⟨k,e,s,c,⟨sga,sgn,sgc⟩,so,⟨nda,ndn,ndc⟩,⟨nma,nmn,nmc⟩,⟨sya,syn,syc⟩,⟨rla,rln,rlc⟩,⟨zsa,zsn,zsc⟩⟩,⟨fia,fin,fic⟩,⟨n0,n1,n2⟩,v0,v1,v2,v3,v4,v5,v6,⟨tba,tbn,tbc⟩⟩:=p;subst hp;simp only at q4 HFD hzl;clear h hpre hZ;cases hf:m.m.sg.find? (kindB 2) with
 | none=>
   rw [hf] at HFD;have hz:=HZ.out;unfold dynI at hz;rw [hf] at hz;simp only at hz;subst hz;simp only [foundV,sg0,Sg.val,Option.isSome_none] at HFD;clear hf HZ HDO;go_enter Tryz.func22,Tryz.ntmps22
   go_wp2_with fail;refine HFD.out.mono ?_;rintro r w1 ⟨rfl,hb1⟩;have HS1:=Lib.hid (fun o=>(H.out.later hb1).alloc o);have HK1:=Lib.hid (fun o=>(Kq.later (Nat.le_of_lt hgl) hb1).alloc (by have:=hb1.size;omega) o);clear hb1;go_wp2;go_ret;exact ⟨rfl,fun _=>⟨_,HS1.out _⟩,HK1.out _⟩
 | some d=>
   rw [hf] at HFD;have hz:=HZ.out;unfold dynI at hz;rw [hf] at hz;simp only at hz;have hdok:=HDO.out d hf;have HZ2:=Lib.hid hz.symm;have hdo:=hdok.ot;have hdf:=hdok.fi;obtain ⟨d0,d1,d2,d3,d4,d5,d6⟩:=d;simp only [foundV,Sg.val,Option.isSome_some] at HFD;simp only at hdo hdf HZ2;clear hf HZ hz HDO hdok;have HTM:Hid ((cutI m.m.zs d2 d4).2.length≤65536∧∀n∈(cutI m.m.zs d2 d4).2,0≤n∧n≤255):=Lib.hid ⟨by
    refine Nat.le_trans ?_ H.out.row.lz;unfold cutI;split
    ·exact Nat.zero_le _
    ·show (piece _ _ _).length≤_;unfold piece;rw [List.length_take,List.length_drop];omega,cutI_bd H.out.row.okz _ _⟩
   have HCU:Hid (∀w1,Ps9 g w1 ⟨⟨k,e,s,c,⟨sga,sgn,sgc⟩,so,⟨nda,ndn,ndc⟩,⟨nma,nmn,nmc⟩,⟨sya,syn,syc⟩,⟨rla,rln,rlc⟩,⟨zsa,zsn,zsc⟩⟩,⟨fia,fin,fic⟩,⟨n0,n1,n2⟩,v0,v1,v2,v3,v4,v5,v6,⟨tba,tbn,tbc⟩⟩ m→Calls Tryz.prog 49 #[.slice zsa zsn zsc,.int .u64 d2,.int .u64 d4] w1 (CutPost (cutI m.m.zs d2 d4) w1)):=Lib.hid (fun w1 h1=>by
    have h2:=h1.bys;exact cutI_any w1.heap.size zsa zsn zsc m.m.zs d2 d4 w1 h2.1 (Nat.le_refl _) h2.2.1 h2.2.2.1 (by omega) hdo.1 hdo.2 hdf.1 hdf.2)
   generalize cutI m.m.zs d2 d4=T at HCU HTM HZ2;obtain ⟨te,TL⟩:=T;simp only at HTM HZ2;obtain ⟨tn,htn⟩:∃tn,TL.length=tn:=⟨_,rfl⟩
   have HTN:=Lib.hid htn;go_enter Tryz.func22,Tryz.ntmps22
   go_wp2_with fail;refine HFD.out.mono ?_;rintro r w1 ⟨rfl,hb1⟩;have hgl1:g<w1.heap.size:=Nat.lt_of_lt_of_le hgl hb1.size;have HS1:=Lib.hid ((H.out.later hb1).alloc (.cells #[.int .u32 d0,.int .u32 d1,.int .u64 d2,.int .u64 d3,.int .u64 d4,.int .u64 d5,.int .u64 d6] 65));have HK1:=Lib.hid ((Kq.later (Nat.le_of_lt hgl) hb1).alloc (Nat.le_of_lt hgl1) (.cells #[.int .u32 d0,.int .u32 d1,.int .u64 d2,.int .u64 d3,.int .u64 d4,.int .u64 d5,.int .u64 d6] 65));have HD1:=Lib.hid (Blk.new w1 #[.int .u32 d0,.int .u32 d1,.int .u64 d2,.int .u64 d3,.int .u64 d4,.int .u64 d5,.int .u64 d6] 65);obtain ⟨P0,hP0⟩:∃P0:World→Prop,P0=fun wx=>Ps9 g wx ⟨⟨k,e,s,c,⟨sga,sgn,sgc⟩,so,⟨nda,ndn,ndc⟩,⟨nma,nmn,nmc⟩,⟨sya,syn,syc⟩,⟨rla,rln,rlc⟩,⟨zsa,zsn,zsc⟩⟩,⟨fia,fin,fic⟩,⟨n0,n1,n2⟩,v0,v1,v2,v3,v4,v5,v6,⟨tba,tbn,tbc⟩⟩ m∧Kq g w wx∧Blk wx w1.heap.size #[.int .u32 d0,.int .u32 d1,.int .u64 d2,.int .u64 d3,.int .u64 d4,.int .u64 d5,.int .u64 d6] 65:=⟨_,rfl⟩
   have HP0:Hid (P0 (w1.alloc (.cells #[.int .u32 d0,.int .u32 d1,.int .u64 d2,.int .u64 d3,.int .u64 d4,.int .u64 d5,.int .u64 d6] 65)).drew):=Lib.hid (by rw [hP0];exact ⟨HS1.out.drew,HK1.out.drew (by simp;omega),HD1.out.drew⟩);have HPB:Hid (∀wx,P0 wx→Blk wx g #[.int .i64 k,.int .u64 e,.int .u64 s,.int .i64 c,.slice sga sgn sgc,.string so,.slice nda ndn ndc,.slice nma nmn nmc,.slice sya syn syc,.slice rla rln rlc,.slice zsa zsn zsc,.slice fia fin fic,.slice n0 n1 n2,.int .u64 v0,.int .u64 v1,.int .u64 v2,.int .u64 v3,.int .u64 v4,.int .u64 v5,.int .u64 v6,.slice tba tbn tbc] 72∧Blk wx w1.heap.size #[.int .u32 d0,.int .u32 d1,.int .u64 d2,.int .u64 d3,.int .u64 d4,.int .u64 d5,.int .u64 d6] 65):=Lib.hid (fun wx h1=>by rw [hP0] at h1;exact ⟨h1.1.box,h1.2.2⟩);have HPC:Hid (∀wx,P0 wx→Calls Tryz.prog 49 #[.slice zsa zsn zsc,.int .u64 d2,.int .u64 d4] wx fun r w2=>(∃u,r=.returned (.tuple #[u,.int .i64 te])∧w2.ownsRow (g+1) 5 1 u tn (TL.map (Value.int .u8)))∧P0 w2∧Kq g wx w2):=Lib.hid (fun wx h1=>by
    rw [hP0] at h1;have hl:=h1.1.lt;refine (HCU.out wx h1.1).mono ?_;rintro r w2 ⟨⟨u,hr,ho⟩,hb⟩;simp only at ho;rw [htn] at ho;refine ⟨⟨u,hr,own_base9 ho hl⟩,?_,Kq.later (Nat.le_of_lt hl) hb⟩;rw [hP0];exact ⟨h1.1.later hb,h1.2.1.trans (Kq.later (Nat.le_of_lt hl) hb),h1.2.2.later hb⟩)
   have HR1:=Lib.hid (fun wx (h1:P0 wx)=>(by rw [hP0] at h1;exact ⟨h1.1,h1.2.1⟩:Ps9 g wx ⟨⟨k,e,s,c,⟨sga,sgn,sgc⟩,so,⟨nda,ndn,ndc⟩,⟨nma,nmn,nmc⟩,⟨sya,syn,syc⟩,⟨rla,rln,rlc⟩,⟨zsa,zsn,zsc⟩⟩,⟨fia,fin,fic⟩,⟨n0,n1,n2⟩,v0,v1,v2,v3,v4,v5,v6,⟨tba,tbn,tbc⟩⟩ m∧Kq g w wx));clear hP0 HCU htn hb1 HS1 HK1 HD1 HFD;go_wp2_with fail;refine wp_region_word (by kernel_rfl) 59 rfl [21,22,23,24,25,26,27,28,29,30,20,31,32,5,6] (Kq (g)) (factsOf [Is (.pointer (some ⟨g,0,none⟩)),Is (.pointer (some ⟨g,0,none⟩)),Is (.pointer (some ⟨g,0,none⟩)),Is (.pointer (some ⟨g,10,none⟩)),Is (.slice zsa zsn zsc),Is (.pointer (some ⟨w1.heap.size,2,none⟩)),Is (.int .u64 d2),Is (.pointer (some ⟨w1.heap.size,4,none⟩)),Is (.int .u64 d4),(OwE (g+1) 5 1 tn (TL.map (Value.int .u8)) te),(OwE (g+1) 5 1 tn (TL.map (Value.int .u8)) te),(Ow (g+1) 5 1 tn (TL.map (Value.int .u8))),Is (.int .i64 te),(Ow (g+1) 5 1 tn (TL.map (Value.int .u8))),Is (.int .i64 te)]) (Jo 9 (P0) (P0)) ?mono4 ?hj4 (by kernel_rfl) ?start4 ?steps4 ?fin4;case mono4=>exact factsOf_mono9 (mono9_cons (Is.mono9 _ _) (mono9_cons (Is.mono9 _ _) (mono9_cons (Is.mono9 _ _) (mono9_cons (Is.mono9 _ _) (mono9_cons (Is.mono9 _ _) (mono9_cons (Is.mono9 _ _) (mono9_cons (Is.mono9 _ _) (mono9_cons (Is.mono9 _ _) (mono9_cons (Is.mono9 _ _) (mono9_cons (OwE.mono (Nat.lt_succ_self _) _ _ _ _ _) (mono9_cons (OwE.mono (Nat.lt_succ_self _) _ _ _ _ _) (mono9_cons (Ow.mono (Nat.lt_succ_self _) _ _ _ _) (mono9_cons (Is.mono9 _ _) (mono9_cons (Ow.mono (Nat.lt_succ_self _) _ _ _ _) (mono9_cons (Is.mono9 _ _) (mono9_nil _))))))))))))))))
   case hj4=>exact Jo.congr (by decide)
   case start4=>exact ⟨fun _=>HP0.out,fun h=>by cases h⟩
   case fin4=>
    intro v9 L w9 hJ hall hF;have hQ:=hJ.p1 (hall 9 (by decide));have f21:v9 0=.pointer (some ⟨g,0,none⟩):=hF 0 (by decide) (by decide);have f22:v9 1=.pointer (some ⟨g,0,none⟩):=hF 1 (by decide) (by decide);have f23:v9 2=.pointer (some ⟨g,0,none⟩):=hF 2 (by decide) (by decide);have f24:v9 3=.pointer (some ⟨g,10,none⟩):=hF 3 (by decide) (by decide);have f25:v9 4=.slice zsa zsn zsc:=hF 4 (by decide) (by decide);have f26:v9 5=.pointer (some ⟨w1.heap.size,2,none⟩):=hF 5 (by decide) (by decide);have f27:v9 6=.int .u64 d2:=hF 6 (by decide) (by decide);have f28:v9 7=.pointer (some ⟨w1.heap.size,4,none⟩):=hF 7 (by decide) (by decide);have f29:v9 8=.int .u64 d4:=hF 8 (by decide) (by decide);have f32:v9 12=.int .i64 te:=hF 12 (by decide) (by decide);have hf5:(Ow (g+1) 5 1 tn (TL.map (Value.int .u8))) (v9 13) w9:=hF 13 (by decide) (by decide);have f6:v9 14=.int .i64 te:=hF 14 (by decide) (by decide);clear hJ hall hF;simp only [putAll,List.set_cons_succ,List.set_cons_zero,Nat.reduceAdd,f21,f22,f23,f24,f25,f26,f27,f28,f29,f32,f6];clear f6 f21 f22 f23 f24 f25 f26 f27 f28 f29 f32;obtain ⟨hst,hkq⟩:=HR1.out _ hQ;obtain ⟨⟨ba,bn,bc⟩,-,hbn,hbv⟩:=own_sh hf5;simp only at hbn hbv;subst hbn;unfold Ow at hf5;rw [hbv] at hf5⊢;have HKQ:=Lib.hid hkq;have HST:=Lib.hid hst;have HRW:=Lib.hid hf5;have hgl2:=hst.lt;have hbn:bn≤65536:=by rw [←HTN.out];exact HTM.out.1
    have HGD:Hid (Calls Tryz.prog 50 #[.slice ba bn bc] w9 fun r w'=>TellsO w9.heap.size (getDy TL).2 (getDy TL).1 r w'∧Below w9.heap.size w9 w'):=Lib.hid (by
     obtain ⟨e0,l0,c0⟩:=own_n HRW.out;exact get5_own w9.heap.size ba bn bc TL w9 (Bys.own HTM.out.2 HRW.out) (Nat.le_refl _) (by omega) l0 c0)
    have HLN:Hid ((getDy TL).2.nd.length≤65537):=Lib.hid (by have:=getDy_nd TL;have:=HTM.out.1;omega);clear hQ hkq hst hbv hf5;generalize getDy TL=DD at HGD HZ2 HLN;obtain ⟨de,D⟩:=DD;simp only at HZ2 HLN HGD;go_wp2_with fail;refine HGD.out.mono ?_;rintro r w4 ⟨⟨na,nc,rfl,hno,hnb,hvl,hvb⟩,hb4⟩;obtain ⟨x0,x1,x2,x3,x4,x5,x6,hv⟩:=list7 hvl;rw [hv] at hvb⊢;rw [show infoV na D.nd.length nc [x0,x1,x2,x3,x4,x5,x6]=.agg #[.slice na D.nd.length nc,.int .u64 x0,.int .u64 x1,.int .u64 x2,.int .u64 x3,.int .u64 x4,.int .u64 x5,.int .u64 x6] from rfl];have HST4:=Lib.hid (HST.out.later hb4);have HKQ4:=Lib.hid (HKQ.out.trans (Kq.later (Nat.le_of_lt hgl2) hb4));have hgl4:g<w4.heap.size:=Nat.lt_of_lt_of_le hgl2 hb4.size;have HNO:=Lib.hid (own_base9 hno hgl2);clear hno hb4 HGD HRW;by_cases hde:de=0
    ·subst hde;have hz:=HZ2.out;rw [if_neg (by decide),hv] at hz;have HZ3:Hid (Z=runI entsL { m with N:=D.nd,so:=x0,st:=x1,sz:=x2,yt:=x3,yn:=x4,rt:=x5,rz:=x6 }):=Lib.hid hz;have hbx4:=HST4.out.box;obtain ⟨p12,p13,p14,p15,p16,p17,p18,p19⟩:w4.cell? ⟨g,12,none⟩=some (.slice n0 n1 n2)∧w4.cell? ⟨g,13,none⟩=some (.int .u64 v0)∧w4.cell? ⟨g,14,none⟩=some (.int .u64 v1)∧w4.cell? ⟨g,15,none⟩=some (.int .u64 v2)∧w4.cell? ⟨g,16,none⟩=some (.int .u64 v3)∧w4.cell? ⟨g,17,none⟩=some (.int .u64 v4)∧w4.cell? ⟨g,18,none⟩=some (.int .u64 v5)∧w4.cell? ⟨g,19,none⟩=some (.int .u64 v6):=⟨hbx4.cell 12,hbx4.cell 13,hbx4.cell 14,hbx4.cell 15,hbx4.cell 16,hbx4.cell 17,hbx4.cell 18,hbx4.cell 19⟩
     obtain ⟨f12,f13,f14,f15,f16,f17,f18,f19⟩:w4.frozen? ⟨g,12,none⟩=false∧w4.frozen? ⟨g,13,none⟩=false∧w4.frozen? ⟨g,14,none⟩=false∧w4.frozen? ⟨g,15,none⟩=false∧w4.frozen? ⟨g,16,none⟩=false∧w4.frozen? ⟨g,17,none⟩=false∧w4.frozen? ⟨g,18,none⟩=false∧w4.frozen? ⟨g,19,none⟩=false:=⟨hbx4.frozen 12,hbx4.frozen 13,hbx4.frozen 14,hbx4.frozen 15,hbx4.frozen 16,hbx4.frozen 17,hbx4.frozen 18,hbx4.frozen 19⟩
     have hsf:=info9_st HST4.out (.cells #[.slice na D.nd.length nc,.int .u64 x0,.int .u64 x1,.int .u64 x2,.int .u64 x3,.int .u64 x4,.int .u64 x5,.int .u64 x6] 70) na D.nd.length nc D.nd x0 x1 x2 x3 x4 x5 x6 rfl HNO.out hnb HLN.out hvb;have HSF:=Lib.hid hsf.1;have HKF:=Lib.hid (HKQ4.out.trans hsf.2);have HIO:Hid (∀(W:World) (hh:Nat),W.heap.size=hh→Ps9 g W ⟨⟨k,e,s,c,⟨sga,sgn,sgc⟩,so,⟨nda,ndn,ndc⟩,⟨nma,nmn,nmc⟩,⟨sya,syn,syc⟩,⟨rla,rln,rlc⟩,⟨zsa,zsn,zsc⟩⟩,⟨fia,fin,fic⟩,⟨na,D.nd.length,nc⟩,x0,x1,x2,x3,x4,x5,x6,⟨tba,tbn,tbc⟩⟩ { m with N:=D.nd,so:=x0,st:=x1,sz:=x2,yt:=x3,yn:=x4,rt:=x5,rz:=x6 }→Kq g w W→Calls Tryz.prog 18 #[.slice (some ⟨hh,0,none⟩) 6 6] (W.alloc (.cells #[.func (.func 51) #[.pointer (some ⟨g,0,none⟩)] #[],.func (.func 52) #[.pointer (some ⟨g,0,none⟩)] #[],.func (.func 53) #[.pointer (some ⟨g,0,none⟩)] #[],.func (.func 54) #[.pointer (some ⟨g,0,none⟩)] #[],.func (.func 55) #[.pointer (some ⟨g,0,none⟩)] #[],.func (.func 56) #[.pointer (some ⟨g,0,none⟩)] #[]] 74)) fun r w'=>r=.returned (.int .i64 Z.1)∧(Z.1=0→∃p,Ps9 g w' p Z.2)∧Kq g w w'):=Lib.hid (fun W hh h0 h1 h2=>by
      subst h0;rw [HZ3.out];exact ents_run g w W _ _ h1 h2 HPRE.out)
     clear hz hbx4 hsf HZ2 HZ3 HST HKQ HST4 HKQ4 HNO hnb hvb hv;go_wp2_with fail;refine (HIO.out _ _ (by simp) HSF.out HKF.out).mono ?_;rintro r w5 ⟨rfl,h1,h2⟩;have H1:=Lib.hid h1;have H2:=Lib.hid h2;clear h1 h2;go_wp2;go_ret;exact ⟨rfl,H1.out,H2.out⟩
    ·have hz:=HZ2.out;rw [if_pos hde] at hz;subst hz;have hdeb:(de != 0)=true:=by rw [bne_iff_ne];exact hde
     have HKF:=Lib.hid (fun o=>HKQ4.out.alloc (Nat.le_of_lt hgl4) o);clear HST HKQ HST4 HKQ4 HNO hnb hvb hv;go_wp2;go_ret;exact ⟨rfl,fun e=>absurd e hde,HKF.out _⟩
   case steps4=>
    refine ⟨?_,?_,?_,?_,?_,?_,?_,?_,?_,?_,?_,?_,?_,?_,?_,trivial⟩;all_goals intro L y w9 hJ hL hy0 hp0 hcl hun
    all_goals have hy:=Lib.hid hy0
    all_goals have hp:=Lib.hid hp0
    all_goals clear hy0 hp0 hun
    ·have e1:y 0=.pointer (some ⟨g,0,none⟩):=hy.out 0 (by decide);have hJ3:=Lib.hid (hJ.pure (show (9:Nat)≠0 by decide));intro K Q hK;clear hcl hJ;obtain ⟨A,hA,v1⟩:=evA1 (n:=59) e1 (by decide);rw [hA] at hK⊢;clear hA hy hp;go_simp;exact hK _ _ ⟨Kq.refl _ _,fun _=>rfl,hJ3.out⟩
    ·have e1:y 21=.pointer (some ⟨g,0,none⟩):=(hp.out 0 (by decide)).2 (by decide);have hJ3:=Lib.hid (hJ.pure (show (9:Nat)≠1 by decide));intro K Q hK;clear hcl hJ;obtain ⟨A,hA,v1⟩:=evA1 (n:=59) e1 (by decide);rw [hA] at hK⊢;clear hA hy hp;go_simp;exact hK _ _ ⟨Kq.refl _ _,fun _=>rfl,hJ3.out⟩
    ·have e1:y 22=.pointer (some ⟨g,0,none⟩):=(hp.out 1 (by decide)).2 (by decide);have hJ3:=Lib.hid (hJ.pure (show (9:Nat)≠2 by decide));intro K Q hK;clear hcl hJ;obtain ⟨A,hA,v1⟩:=evA1 (n:=59) e1 (by decide);rw [hA] at hK⊢;clear hA hy hp;go_simp;exact hK _ _ ⟨Kq.refl _ _,fun _=>rfl,hJ3.out⟩
    ·have e1:y 23=.pointer (some ⟨g,0,none⟩):=(hp.out 2 (by decide)).2 (by decide);have hJ3:=Lib.hid (hJ.pure (show (9:Nat)≠3 by decide));intro K Q hK;clear hcl hJ;obtain ⟨A,hA,v1⟩:=evA1 (n:=59) e1 (by decide);rw [hA] at hK⊢;clear hA hy hp;go_simp;exact hK _ _ ⟨Kq.refl _ _,fun _=>rfl,hJ3.out⟩
    ·have e1:y 24=.pointer (some ⟨g,10,none⟩):=(hp.out 3 (by decide)).2 (by decide);have hLj:L 9=false:=by
      cases h:L 9 with
      | false=>rfl
      | true=>have:=(hcl 9 _ rfl h 4 (by decide));rw [hL] at this;cases this
     have hP:=Lib.hid (hJ.p0 hLj);have q10:w9.cell? ⟨g,10,none⟩=some (.slice zsa zsn zsc):=(HPB.out _ hP.out).1.cell 10;have hJ3:=Lib.hid (hJ.pure (show (9:Nat)≠4 by decide));intro K Q hK;clear hcl hJ;obtain ⟨A,hA,v1⟩:=evA1 (n:=59) e1 (by decide);rw [hA] at hK⊢;clear hA hy hp;go_simp;exact hK _ _ ⟨Kq.refl _ _,fun _=>rfl,hJ3.out⟩
    ·have e1:y 3=.pointer (some ⟨w1.heap.size,0,none⟩):=hy.out 3 (by decide);have hJ3:=Lib.hid (hJ.pure (show (9:Nat)≠5 by decide));intro K Q hK;clear hcl hJ;obtain ⟨A,hA,v1⟩:=evA1 (n:=59) e1 (by decide);rw [hA] at hK⊢;clear hA hy hp;go_simp;exact hK _ _ ⟨Kq.refl _ _,fun _=>rfl,hJ3.out⟩
    ·have e1:y 26=.pointer (some ⟨w1.heap.size,2,none⟩):=(hp.out 5 (by decide)).2 (by decide);have hLj:L 9=false:=by
      cases h:L 9 with
      | false=>rfl
      | true=>have:=(hcl 9 _ rfl h 6 (by decide));rw [hL] at this;cases this
     have hP:=Lib.hid (hJ.p0 hLj);have q2:w9.cell? ⟨w1.heap.size,2,none⟩=some (.int .u64 d2):=(HPB.out _ hP.out).2.cell 2;have hJ3:=Lib.hid (hJ.pure (show (9:Nat)≠6 by decide));intro K Q hK;clear hcl hJ;obtain ⟨A,hA,v1⟩:=evA1 (n:=59) e1 (by decide);rw [hA] at hK⊢;clear hA hy hp;go_simp;exact hK _ _ ⟨Kq.refl _ _,fun _=>rfl,hJ3.out⟩
    ·have e1:y 3=.pointer (some ⟨w1.heap.size,0,none⟩):=hy.out 3 (by decide);have hJ3:=Lib.hid (hJ.pure (show (9:Nat)≠7 by decide));intro K Q hK;clear hcl hJ;obtain ⟨A,hA,v1⟩:=evA1 (n:=59) e1 (by decide);rw [hA] at hK⊢;clear hA hy hp;go_simp;exact hK _ _ ⟨Kq.refl _ _,fun _=>rfl,hJ3.out⟩
    ·have e1:y 28=.pointer (some ⟨w1.heap.size,4,none⟩):=(hp.out 7 (by decide)).2 (by decide);have hLj:L 9=false:=by
      cases h:L 9 with
      | false=>rfl
      | true=>have:=(hcl 9 _ rfl h 8 (by decide));rw [hL] at this;cases this
     have hP:=Lib.hid (hJ.p0 hLj);have q4:w9.cell? ⟨w1.heap.size,4,none⟩=some (.int .u64 d4):=(HPB.out _ hP.out).2.cell 4;have hJ3:=Lib.hid (hJ.pure (show (9:Nat)≠8 by decide));intro K Q hK;clear hcl hJ;obtain ⟨A,hA,v1⟩:=evA1 (n:=59) e1 (by decide);rw [hA] at hK⊢;clear hA hy hp;go_simp;exact hK _ _ ⟨Kq.refl _ _,fun _=>rfl,hJ3.out⟩
    ·have e1:y 25=.slice zsa zsn zsc:=(hp.out 4 (by decide)).2 (by decide);have e2:y 27=.int .u64 d2:=(hp.out 6 (by decide)).2 (by decide);have e3:y 29=.int .u64 d4:=(hp.out 8 (by decide)).2 (by decide);have hP:=Lib.hid (hJ.p0 hL);intro K Q hK;clear hcl hJ;obtain ⟨A,hA,v1,v2,v3⟩:=evA3 (n:=59) e1 e2 e3 (by decide) (by decide) (by decide);rw [hA] at hK⊢;clear hA hy hp;go_simp;go_at_call 49
     refine (HPC.out _ hP.out).mono ?_;rintro r w7 ⟨⟨u,rfl,ho⟩,hp7,hk7⟩;exact hK _ _ ⟨hk7,fun _=>⟨u,rfl,ho⟩,Jo.second hp7⟩
    ·have e1:(OwE (g+1) 5 1 tn (TL.map (Value.int .u8)) te) (y 30) w9:=(hp.out 9 (by decide)).2 (by decide);obtain ⟨u1,hv1,ho1⟩:=e1;have hJ3:=Lib.hid (hJ.pure (show (9:Nat)≠10 by decide));intro K Q hK;clear hcl hJ;obtain ⟨A,hA,v1⟩:=evA1 (n:=59) hv1 (by decide);rw [hA] at hK⊢;clear hA hy hp;go_simp;exact hK _ _ ⟨Kq.refl _ _,fun _=>⟨_,rfl,ho1⟩,hJ3.out⟩
    ·have e1:(OwE (g+1) 5 1 tn (TL.map (Value.int .u8)) te) (y 20) w9:=(hp.out 10 (by decide)).2 (by decide);obtain ⟨u1,hv1,ho1⟩:=e1;have hJ3:=Lib.hid (hJ.pure (show (9:Nat)≠11 by decide));intro K Q hK;clear hcl hJ;obtain ⟨A,hA,v1⟩:=evA1 (n:=59) hv1 (by decide);rw [hA] at hK⊢;clear hA hy hp;go_simp;exact hK _ _ ⟨Kq.refl _ _,fun _=>ho1,hJ3.out⟩
    ·have e1:(OwE (g+1) 5 1 tn (TL.map (Value.int .u8)) te) (y 20) w9:=(hp.out 10 (by decide)).2 (by decide);obtain ⟨u1,hv1,ho1⟩:=e1;have hJ3:=Lib.hid (hJ.pure (show (9:Nat)≠12 by decide));intro K Q hK;clear hcl hJ;obtain ⟨A,hA,v1⟩:=evA1 (n:=59) hv1 (by decide);rw [hA] at hK⊢;clear hA hy hp;go_simp;exact hK _ _ ⟨Kq.refl _ _,fun _=>rfl,hJ3.out⟩
    ·have e1:(Ow (g+1) 5 1 tn (TL.map (Value.int .u8))) (y 31) w9:=(hp.out 11 (by decide)).2 (by decide);have hv1:y 31=y 31:=rfl;have hJ3:=Lib.hid (hJ.pure (show (9:Nat)≠13 by decide));intro K Q hK;clear hcl hJ;obtain ⟨A,hA,v1⟩:=evA1 (n:=59) hv1 (by decide);rw [hA] at hK⊢;clear hA hy hp;go_simp;exact hK _ _ ⟨Kq.refl _ _,fun _=>e1,hJ3.out⟩
    ·have e1:y 32=.int .i64 te:=(hp.out 12 (by decide)).2 (by decide);have hJ3:=Lib.hid (hJ.pure (show (9:Nat)≠14 by decide));intro K Q hK;clear hcl hJ;obtain ⟨A,hA,v1⟩:=evA1 (n:=59) e1 (by decide);rw [hA] at hK⊢;clear hA hy hp;go_simp;exact hK _ _ ⟨Kq.refl _ _,fun _=>rfl,hJ3.out⟩
end Go.Proofs.YtclgbdfkdbbinaaGreat
