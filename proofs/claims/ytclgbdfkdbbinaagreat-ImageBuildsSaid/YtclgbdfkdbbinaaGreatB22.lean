/-
  What is proved here: words and contracts, a part of those that the statement rests on (B22).
  Conditions: none but that the arguments are values of their types.
-/
import Derived.Test.YtclgbdfkdbbinaaGreatB0
import Derived.Test.YtclgbdfkdbbinaaGreatB20
import Derived.Test.YtclgbdfkdbbinaaGreatB11
import Derived.Test.YtclgbdfkdbbinaaGreatB5
import Derived.Deep.Cut
import Derived.Deep.DeepCutAuto
import Derived.BigQuiet
import Derived.Deep.QuietTactic
set_option linter.unusedVariables false
set_option linter.unusedSimpArgs false
set_option maxRecDepth 100000
set_option maxHeartbeats 12800000
namespace Go.Proofs.YtclgbdfkdbbinaaGreat
open Go.RowKit
theorem lS (b:Bm) (k:Nat):(dJ b k).length=k:=by simp [dJ]
theorem pW (b:Bm) (k:Nat):dJ b (k+1)=dJ b k++[kD b.i (b.m.fx.getD k Fx.zero)]:=by simp [dJ,List.range_succ]
theorem ro (B:Nat) (x:Bu) (b:Bm) (w:World) (h:x.Is w B b) (hB:B≤w.heap.size) (hl:b.m.fx.length≤1000000) :
 Calls Tryz.prog 78 #[x.val] w fun r w'=>(∃u,r=.returned u∧w'.ownsRow w.heap.size 78 4 u (dJ b b.m.fx.length).length (Rl.flat (dJ b b.m.fx.length)))∧Below w.heap.size w w':=by
 obtain ⟨i0,hI,hz0,hz1,hz2⟩:=info_parts oh;have HI:=hZz hI;have HZ0:=hZz hz0;have HZ1:=hZz hz1;have HZ2:=hZz hz2;clear hI hz0 hz1 hz2;have HDF:=hZz h.s.fx;have hdl:x.s.fx.n=b.m.fx.length:=h.s.fx.hl.symm;have hie:=h.i;have HAD0:=hZz (fun wh of w1 o0 o1=>lU x wh of w1 h.ok o0 o1);obtain ⟨⟨k,so,⟨nda,ndn,ndc⟩,en,⟨coa,con,coc⟩,⟨daa,dan,dac⟩,bz,⟨tla,tln,tlc⟩,tz,⟨dfa,dfn,dfc⟩,⟨fxa,fxn,fxc⟩⟩,⟨tba,tbn,tbc⟩,⟨pda,pdn,pdc⟩,⟨pna,pnn,pnc⟩,⟨v0,v1,v2,v3,v4,v5,v6,dy,fr,cp,dp,tp⟩⟩:=x;unfold Bu.val Bu.cells at HAD0;unfold Bu.val;simp only at HDF hdl hie HAD0⊢;rw [hie] at HAD0;clear h hie;rw [←hdl] at hl⊢;clear hdl;have hli:(fxn:Int)≤1000000:=by omega
 have HDC:Hid (∃db doo,(0<fxn→fxa=some ⟨db,doo,none⟩)∧db<w.heap.size+1∧∀q,q<fxn→db<w.heap.size∧Fx.At w db (doo+q*5) (b.m.fx.getD q Fx.zero)):=hZz (by
  by_cases h0:0<fxn
  ·obtain ⟨db,doo,e,hdB,hdc⟩:=HDF.out.hc h0;exact ⟨db,doo,fun _=>e,by omega,fun q hq=>⟨Nat.lt_of_lt_of_le hdB hB,hdc q hq⟩⟩
  ·exact ⟨0,0,fun h=>absurd h h0,by omega,fun q hq=>absurd hq oZm⟩)
 obtain ⟨C,hC⟩:∃C:Array Value,C=#[.int .i64 k,.string so,.slice nda ndn ndc,.int .u64 en,.slice coa con coc,.slice daa dan dac,.int .u64 bz,.slice tla tln tlc,.int .u64 tz,.slice dfa dfn dfc,.slice fxa fxn fxc,.slice tba tbn tbc,.slice pda pdn pdc,.slice pna pnn pnc,.int .u64 v0,.int .u64 v1,.int .u64 v2,.int .u64 v3,.int .u64 v4,.int .u64 v5,.int .u64 v6,.int .u64 dy,.int .u64 fr,.int .u64 cp,.int .u64 dp,.int .u64 tp]:=⟨_,rfl⟩
 have HCC:Hid (∀wx,Blk wx w.heap.size C 84→Blk wx w.heap.size #[.int .i64 k,.string so,.slice nda ndn ndc,.int .u64 en,.slice coa con coc,.slice daa dan dac,.int .u64 bz,.slice tla tln tlc,.int .u64 tz,.slice dfa dfn dfc,.slice fxa fxn fxc,.slice tba tbn tbc,.slice pda pdn pdc,.slice pna pnn pnc,.int .u64 v0,.int .u64 v1,.int .u64 v2,.int .u64 v3,.int .u64 v4,.int .u64 v5,.int .u64 v6,.int .u64 dy,.int .u64 fr,.int .u64 cp,.int .u64 dp,.int .u64 tp] 84):=hZz (fun wx h=>by rw [←hC];exact h);have HST0:Hid (bm w (w.alloc (.cells #[.int .i64 k,.string so,.slice nda ndn ndc,.int .u64 en,.slice coa con coc,.slice daa dan dac,.int .u64 bz,.slice tla tln tlc,.int .u64 tz,.slice dfa dfn dfc,.slice fxa fxn fxc,.slice tba tbn tbc,.slice pda pdn pdc,.slice pna pnn pnc,.int .u64 v0,.int .u64 v1,.int .u64 v2,.int .u64 v3,.int .u64 v4,.int .u64 v5,.int .u64 v6,.int .u64 dy,.int .u64 fr,.int .u64 cp,.int .u64 dp,.int .u64 tp] 84)) C 84 78 4 (.slice none 0 0) 0 (Rl.flat (dJ b 0))):=hZz
  ⟨World.ownsRow_nil _ _ _ _,by rw [hC];exact Blk.new _ _ _,(Below.refl _ _).alloc (lZr _) _⟩
 clear hC;go_enter Tryz.func78,Tryz.ntmps78
 go_wp2;go_loopw [3,11] (fun l i wr=>∃q:Nat,q≤fxn∧i=.int .i64 q∧bm w wr C 84 78 4 l q (Rl.flat (dJ b q))) (fun _ i _=>fxn-(intOf i).toNat)
 case atStart=>exact ⟨0,Nat.zero_le _,rfl,HST0.out⟩
 case round=>
  obtain ⟨q,hq,rfl,hst⟩:=hrel;have HST:=hZz hst;obtain ⟨la,lc,rfl,-,-⟩:=az hst.own;have hbx:=HCC.out _ hst.box;have hgw:=hst.box.lt;by_cases hlt:q<fxn
  ·have hqi:(q:Int)<fxn:=by omega
   obtain ⟨db,doo,hfa,-,hdc⟩:=HDC.out;obtain rfl:=hfa oZm;obtain ⟨hdw,hat⟩:=hdc q hlt;obtain ⟨c0,c1,c2,c3,c4⟩:=hat.below hst.bel hdw;have hdb:db<wr.heap.size:=Nat.lt_of_lt_of_le hdw hst.bel.size;have hok:=HDF.out.okAt hlt;have HSU:=hZz (pW b q);clear hst hbx hdc hat;generalize b.m.fx.getD q Fx.zero=d at c0 c1 c2 c3 c4 hok HSU;have HAD:=hZz (fun w1=>HAD0.out d.wh d.of w1 hok.of.1 hok.of.2);obtain ⟨av,hav⟩:∃av,jX b.i d.wh d.of=av:=⟨_,rfl⟩
   have HSV:Hid (kD b.i d=⟨av,d.ty,(if 0≤d.df then IntKind.u32.wrap (1+IntKind.u32.wrap d.df) else 0),d.ad⟩):=hZz (by unfold kD;rw [hav]);rw [hav] at HAD;have hfd:=hok.df;obtain ⟨fw,fo,ft,fd,fa⟩:=d;simp only at c0 c1 c2 c3 c4 HAD HSV hfd;obtain ⟨fd0,fd1⟩:=hfd;clear hav hok;go_upto_region 5 with fail
   obtain ⟨wx,hwx⟩:∃wx,wr.alloc (.cells #[.int .i64 fw,.int .u64 fo,.int .u32 ft,.int .i64 fd,.int .i64 fa] 101)=wx:=⟨_,rfl⟩
   have HXL:Hid (wx.heap.size=wr.heap.size+1):=hZz (by rw [←hwx];simp);have HDB:Hid (Blk wx wr.heap.size #[.int .i64 fw,.int .u64 fo,.int .u32 ft,.int .i64 fd,.int .i64 fa] 101):=hZz (by rw [←hwx];exact Blk.new _ _ _);have HSX:Hid (bm w wx C 84 78 4 (.slice la q lc) q (Rl.flat (dJ b q))):=hZz (by rw [←hwx];exact HST.out.alloc _);rw [hwx];have HPB:Hid (∀w9,Below wx.drew.heap.size wx.drew w9→Blk w9 w.heap.size #[.int .i64 k,.string so,.slice nda ndn ndc,.int .u64 en,.slice coa con coc,.slice daa dan dac,.int .u64 bz,.slice tla tln tlc,.int .u64 tz,.slice dfa dfn dfc,.slice (some ⟨db,doo,none⟩) fxn fxc,.slice tba tbn tbc,.slice pda pdn pdc,.slice pna pnn pnc,.int .u64 v0,.int .u64 v1,.int .u64 v2,.int .u64 v3,.int .u64 v4,.int .u64 v5,.int .u64 v6,.int .u64 dy,.int .u64 fr,.int .u64 cp,.int .u64 dp,.int .u64 tp] 84∧Blk w9 wr.heap.size #[.int .i64 fw,.int .u64 fo,.int .u32 ft,.int .i64 fd,.int .i64 fa] 101):=hZz (fun w9 hb=>
    ⟨HCC.out _ (HSX.out.drew.later hb).box,HDB.out.drew.later hb⟩)
   clear hwx c0 c1 c2 c3 c4 HST;go_wp2_with fail;refine aL (by kernel_rfl) 40 rfl [15,16,17,18,19,20,21,22,23,24,25,6,40] (Rbx (wx.drew).heap.size) (aU [Is (.agg #[.int .i64 k,.string so,.slice nda ndn ndc,.int .u64 en,.slice coa con coc,.slice daa dan dac,.int .u64 bz,.slice tla tln tlc,.int .u64 tz,.slice dfa dfn dfc,.slice (some ⟨db,doo,none⟩) fxn fxc,.slice tba tbn tbc,.slice pda pdn pdc,.slice pna pnn pnc,.int .u64 v0,.int .u64 v1,.int .u64 v2,.int .u64 v3,.int .u64 v4,.int .u64 v5,.int .u64 v6,.int .u64 dy,.int .u64 fr,.int .u64 cp,.int .u64 dp,.int .u64 tp]),Is (.pointer (some ⟨wr.heap.size,0,none⟩)),Is (.int .i64 fw),Is (.pointer (some ⟨wr.heap.size,1,none⟩)),Is (.int .u64 fo),Is (.int .u64 av),Is (.pointer (some ⟨wr.heap.size,2,none⟩)),Is (.int .u32 ft),Is (.pointer (some ⟨wr.heap.size,4,none⟩)),Is (.int .i64 fa),Is (.agg #[.int .u64 av,.int .u32 ft,.int .u32 0,.int .i64 fa]),Fb (wx.drew).heap.size 78 4,bD]) (Jb 11 12 (wx.drew) 78 #[.int .u64 av,.int .u32 ft,.int .u32 0,.int .i64 fa]) ?mono5 ?hj5 (by kernel_rfl) ?start5 ?steps5 ?fin5;case mono5=>exact aV (aa (Is.monoR _ _) (aa (Is.monoR _ _) (aa (Is.monoR _ _) (aa (Is.monoR _ _) (aa (Is.monoR _ _) (aa (Is.monoR _ _) (aa (Is.monoR _ _) (aa (Is.monoR _ _) (aa (Is.monoR _ _) (aa (Is.monoR _ _) (aa (Is.monoR _ _) (aa (Fb.monoR _ _ _) (aa (bD.monoR _) (bN _))))))))))))))
   case hj5=>exact Jb.congr dZc dZc
   case start5=>exact Jb.start
   case fin5=>
    intro v9 L w9 hJ hall hF;obtain ⟨hbe,hAll⟩:=hJ.done (hall 12 dZc);obtain ⟨gx,Cx,hgx,hgB,hgb,-⟩:Fb (wx.drew).heap.size 78 4 (v9 11) w9:=hF 11 dZc dZc;obtain rfl:=hAll gx Cx hgB hgb;have f15:v9 0=.agg #[.int .i64 k,.string so,.slice nda ndn ndc,.int .u64 en,.slice coa con coc,.slice daa dan dac,.int .u64 bz,.slice tla tln tlc,.int .u64 tz,.slice dfa dfn dfc,.slice (some ⟨db,doo,none⟩) fxn fxc,.slice tba tbn tbc,.slice pda pdn pdc,.slice pna pnn pnc,.int .u64 v0,.int .u64 v1,.int .u64 v2,.int .u64 v3,.int .u64 v4,.int .u64 v5,.int .u64 v6,.int .u64 dy,.int .u64 fr,.int .u64 cp,.int .u64 dp,.int .u64 tp]:=hF 0 dZc dZc;have f16:v9 1=.pointer (some ⟨wr.heap.size,0,none⟩):=hF 1 dZc dZc;have f17:v9 2=.int .i64 fw:=hF 2 dZc dZc;have f18:v9 3=.pointer (some ⟨wr.heap.size,1,none⟩):=hF 3 dZc dZc;have f19:v9 4=.int .u64 fo:=hF 4 dZc dZc;have f20:v9 5=.int .u64 av:=hF 5 dZc dZc;have f21:v9 6=.pointer (some ⟨wr.heap.size,2,none⟩):=hF 6 dZc dZc;have f22:v9 7=.int .u32 ft:=hF 7 dZc dZc;have f23:v9 8=.pointer (some ⟨wr.heap.size,4,none⟩):=hF 8 dZc dZc;have f24:v9 9=.int .i64 fa:=hF 9 dZc dZc;have f25:v9 10=.agg #[.int .u64 av,.int .u32 ft,.int .u32 0,.int .i64 fa]:=hF 10 dZc dZc;clear hJ hall hF hAll;simp only [aO,List.set_cons_succ,List.set_cons_zero,Nat.reduceAdd,hgx,f15,f16,f17,f18,f19,f20,f21,f22,f23,f24,f25];clear hgx f15 f16 f17 f18 f19 f20 f21 f22 f23 f24 f25;have HSW:=hZz (HSX.out.drew.later hbe);have HBE:=hZz hbe;have HGX:=hZz hgB;have hgl:=hgb.lt;have hd3:w9.cell? ⟨wr.heap.size,3,none⟩=some (.int .i64 fd):=((HPB.out _ hbe).2).cell 3;have hwl:wr.heap.size<w9.heap.size:=((HPB.out _ hbe).2).lt;have g0:w9.cell? ⟨gx,0,none⟩=some (.int .u64 av):=hgb.cell 0;have g1:w9.cell? ⟨gx,1,none⟩=some (.int .u32 ft):=hgb.cell 1;have g2:w9.cell? ⟨gx,2,none⟩=some (.int .u32 0):=hgb.cell 2;have g3:w9.cell? ⟨gx,3,none⟩=some (.int .i64 fa):=hgb.cell 3;have z2:=hgb.frozen 2;clear hbe hgb hgB HPB HDB;by_cases hd0:0≤fd
    ·obtain ⟨sv,hsv⟩:∃sv,(1+fd) % 4294967296=sv:=⟨_,rfl⟩
     have hsw:IntKind.u32.wrap (1+IntKind.u32.wrap fd)=sv:=by rw [←hsv,IntKind.wrap_u32,IntKind.wrap_u32];omega
     have HSV1:Hid (kD b.i ⟨fw,fo,ft,fd,fa⟩=⟨av,ft,sv,fa⟩):=hZz (by rw [HSV.out,if_pos hd0,hsw]);clear hsw;have hb3:Below wx.drew.heap.size wx.drew (w9.setCell ⟨gx,2,none⟩ (.int .u32 sv)):=HBE.out.setCell HGX.out _;have HSS:=hZz (HSX.out.drew.later hb3);clear hb3;go_wp2_with (at_builtin;refine wpList_append_own _ rfl _ _ 30 rfl (w.heap.size+1) 78 i0 _ 4 24 Tryz.underlying30 HI.out HZ0.out HZ1.out HZ2.out rfl dZc _ q _ rfl (HSS.out.alloc _).own _ 1 1 [.int .u64 av,.int .u32 ft,.int .u32 sv,.int .i64 fa] rfl rfl ?d1 ?d2 ?d3 ?d4 ?d5 ?_);try (case d1=>exact bT (w9.setCell ⟨gx,2,none⟩ (.int .u32 sv)) [.int .u64 av,.int .u32 ft,.int .u32 sv,.int .i64 fa] _ _ (by simp))
     case d2=>first | (intro u hu;simp at hu;rcases hu with rfl | rfl | rfl | rfl<;>rfl) | exact ⟨rfl,rfl,rfl,rfl⟩
     case d3=>unfold maxLen;omega
     case d4=>omega
     case d5=>have:=HSS.out.box.lt;simp;omega
     intro va wa hown hg _;have HA:Hid (bm w wa C 84 78 4 va (q+1) (Rl.flat (dJ b (q+1)))):=hZz (HSS.out.app (by rw [HSU.out,HSV1.out,Rl.flat_snoc];exact hown) hg);clear hown hg;go_wp2;go_roundw
     case rel=>exact ⟨q+1,by omega,by go_num,HA.out⟩
     case measure=>(simp [intOf]<;>omega)
    ·have HSV1:Hid (kD b.i ⟨fw,fo,ft,fd,fa⟩=⟨av,ft,0,fa⟩):=hZz (by rw [HSV.out,if_neg hd0]);have hdn:fd<0:=by omega
     have hdb9:decide (fd≥0)=false:=decide_eq_false hd0;go_wp2_with (at_builtin;refine wpList_append_own _ rfl _ _ 30 rfl (w.heap.size+1) 78 i0 _ 4 24 Tryz.underlying30 HI.out HZ0.out HZ1.out HZ2.out rfl dZc _ q _ rfl (HSW.out.alloc _).own _ 1 1 [.int .u64 av,.int .u32 ft,.int .u32 0,.int .i64 fa] rfl rfl ?e1 ?e2 ?e3 ?e4 ?e5 ?_);try (case e1=>exact bT w9 [.int .u64 av,.int .u32 ft,.int .u32 0,.int .i64 fa] _ _ (by simp))
     case e2=>first | (intro u hu;simp at hu;rcases hu with rfl | rfl | rfl | rfl<;>rfl) | exact ⟨rfl,rfl,rfl,rfl⟩
     case e3=>unfold maxLen;omega
     case e4=>omega
     case e5=>have:=HSW.out.box.lt;simp;omega
     intro va wa hown hg _;have HA:Hid (bm w wa C 84 78 4 va (q+1) (Rl.flat (dJ b (q+1)))):=hZz (HSW.out.app (by rw [HSU.out,HSV1.out,Rl.flat_snoc];exact hown) hg);clear hown hg;go_wp2;go_roundw
     case rel=>exact ⟨q+1,by omega,by go_num,HA.out⟩
     case measure=>(simp [intOf]<;>omega)
   case steps5=>
    refine ⟨?_,?_,?_,?_,?_,?_,?_,?_,?_,?_,?_,?_,?_,trivial⟩;all_goals intro L y w9 hJ hL hy0 hp0 hcl hun
    all_goals have hy:=hZz hy0
    all_goals have hp:=hZz hp0
    all_goals have HJ:=hZz hJ
    all_goals have HLS:=hZz hL
    all_goals have HB:=hZz hJ.bel
    all_goals have HSZ:=hZz hJ.bel.size
    all_goals clear hy0 hp0 hun hJ
    ·have e1:y 1=.pointer (some ⟨w.heap.size,0,none⟩):=hy.out 1 dZc;have hl1:=(HPB.out _ HB.out).1.lt;intro K Q hK;clear hcl hL;have v1:=(ax 40 y [] (t:=1) dZc).trans e1;obtain ⟨A,hA⟩:∃A,(⟨af 40 y,[]⟩:Act)=A:=⟨_,rfl⟩
     rw [hA] at v1 hK⊢;clear hA hy hp;refine wp_load_row 84 (.tmp 1) rfl (w.heap.size) v1 _ _ (0,0) _ ((HPB.out _ HB.out).1) Tryz.underlying84 rfl (by kernel_rfl) ?_;exact hK _ _ ⟨Rbx.refl _ _,fun _=>rfl,HJ.out.pure dZc dZc⟩
    ·have e1:y 5=.pointer (some ⟨wr.heap.size,0,none⟩):=hy.out 5 dZc;intro K Q hK;clear hcl hL;obtain ⟨A,hA,v1⟩:=evA1 (n:=40) e1 dZc;rw [hA] at hK⊢;clear hA hy hp;go_simp;exact hK _ _ ⟨Rbx.refl _ _,fun _=>rfl,HJ.out.pure dZc dZc⟩
    ·have e1:y 16=.pointer (some ⟨wr.heap.size,0,none⟩):=(hp.out 1 dZc).2 dZc;have q0:w9.cell? ⟨wr.heap.size,0,none⟩=some (.int .i64 fw):=(HPB.out _ HB.out).2.cell 0;have hl1:=(HPB.out _ HB.out).2.lt;intro K Q hK;clear hcl hL;obtain ⟨A,hA,v1⟩:=evA1 (n:=40) e1 dZc;rw [hA] at hK⊢;clear hA hy hp;go_simp;exact hK _ _ ⟨Rbx.refl _ _,fun _=>rfl,HJ.out.pure dZc dZc⟩
    ·have e1:y 5=.pointer (some ⟨wr.heap.size,0,none⟩):=hy.out 5 dZc;intro K Q hK;clear hcl hL;obtain ⟨A,hA,v1⟩:=evA1 (n:=40) e1 dZc;rw [hA] at hK⊢;clear hA hy hp;go_simp;exact hK _ _ ⟨Rbx.refl _ _,fun _=>rfl,HJ.out.pure dZc dZc⟩
    ·have e1:y 18=.pointer (some ⟨wr.heap.size,1,none⟩):=(hp.out 3 dZc).2 dZc;have q1:w9.cell? ⟨wr.heap.size,1,none⟩=some (.int .u64 fo):=(HPB.out _ HB.out).2.cell 1;have hl1:=(HPB.out _ HB.out).2.lt;intro K Q hK;clear hcl hL;obtain ⟨A,hA,v1⟩:=evA1 (n:=40) e1 dZc;rw [hA] at hK⊢;clear hA hy hp;go_simp;exact hK _ _ ⟨Rbx.refl _ _,fun _=>rfl,HJ.out.pure dZc dZc⟩
    ·have e1:y 15=.agg #[.int .i64 k,.string so,.slice nda ndn ndc,.int .u64 en,.slice coa con coc,.slice daa dan dac,.int .u64 bz,.slice tla tln tlc,.int .u64 tz,.slice dfa dfn dfc,.slice (some ⟨db,doo,none⟩) fxn fxc,.slice tba tbn tbc,.slice pda pdn pdc,.slice pna pnn pnc,.int .u64 v0,.int .u64 v1,.int .u64 v2,.int .u64 v3,.int .u64 v4,.int .u64 v5,.int .u64 v6,.int .u64 dy,.int .u64 fr,.int .u64 cp,.int .u64 dp,.int .u64 tp]:=(hp.out 0 dZc).2 dZc;have e2:y 17=.int .i64 fw:=(hp.out 2 dZc).2 dZc;have e3:y 19=.int .u64 fo:=(hp.out 4 dZc).2 dZc;intro K Q hK;clear hcl hL;obtain ⟨A,hA,v1,v2,v3⟩:=evA3 (n:=40) e1 e2 e3 dZc dZc dZc;rw [hA] at hK⊢;clear hA hy hp;go_simp;go_at_call 127
     refine (HAD.out w9).mono ?_;rintro r w7 ⟨rfl,rfl⟩;exact hK _ _ ⟨Rbx.later HSZ.out ((Below.refl _ _).alloc (lZr _) _),fun _=>rfl,HJ.out.alloc dZc dZc dZc⟩
    ·have e1:y 5=.pointer (some ⟨wr.heap.size,0,none⟩):=hy.out 5 dZc;intro K Q hK;clear hcl hL;obtain ⟨A,hA,v1⟩:=evA1 (n:=40) e1 dZc;rw [hA] at hK⊢;clear hA hy hp;go_simp;exact hK _ _ ⟨Rbx.refl _ _,fun _=>rfl,HJ.out.pure dZc dZc⟩
    ·have e1:y 21=.pointer (some ⟨wr.heap.size,2,none⟩):=(hp.out 6 dZc).2 dZc;have q2:w9.cell? ⟨wr.heap.size,2,none⟩=some (.int .u32 ft):=(HPB.out _ HB.out).2.cell 2;have hl1:=(HPB.out _ HB.out).2.lt;intro K Q hK;clear hcl hL;obtain ⟨A,hA,v1⟩:=evA1 (n:=40) e1 dZc;rw [hA] at hK⊢;clear hA hy hp;go_simp;exact hK _ _ ⟨Rbx.refl _ _,fun _=>rfl,HJ.out.pure dZc dZc⟩
    ·have e1:y 5=.pointer (some ⟨wr.heap.size,0,none⟩):=hy.out 5 dZc;intro K Q hK;clear hcl hL;obtain ⟨A,hA,v1⟩:=evA1 (n:=40) e1 dZc;rw [hA] at hK⊢;clear hA hy hp;go_simp;exact hK _ _ ⟨Rbx.refl _ _,fun _=>rfl,HJ.out.pure dZc dZc⟩
    ·have e1:y 23=.pointer (some ⟨wr.heap.size,4,none⟩):=(hp.out 8 dZc).2 dZc;have q4:w9.cell? ⟨wr.heap.size,4,none⟩=some (.int .i64 fa):=(HPB.out _ HB.out).2.cell 4;have hl1:=(HPB.out _ HB.out).2.lt;intro K Q hK;clear hcl hL;obtain ⟨A,hA,v1⟩:=evA1 (n:=40) e1 dZc;rw [hA] at hK⊢;clear hA hy hp;go_simp;exact hK _ _ ⟨Rbx.refl _ _,fun _=>rfl,HJ.out.pure dZc dZc⟩
    ·have e1:y 20=.int .u64 av:=(hp.out 5 dZc).2 dZc;have e2:y 22=.int .u32 ft:=(hp.out 7 dZc).2 dZc;have e3:y 24=.int .i64 fa:=(hp.out 9 dZc).2 dZc;intro K Q hK;clear hcl hL;obtain ⟨A,hA,v1,v2,v3⟩:=evA3 (n:=40) e1 e2 e3 dZc dZc dZc;rw [hA] at hK⊢;clear hA hy hp;rw [Array.getD_eq_getD_getElem?] at v1 v2 v3;go_simp;exact hK _ _ ⟨Rbx.refl _ _,fun _=>rfl,HJ.out.pure dZc dZc⟩
    ·have HLJ:Hid (L 12=false):=hZz (by
      cases h:L 12 with
      | false=>rfl
      | true=>have:=(hcl 12 _ rfl h 11 dZc);rw [hL] at this;cases this)
     intro K Q hK;clear hcl hL;obtain ⟨A,hA⟩:∃A,(⟨af 40 y,[]⟩:Act)=A:=⟨_,rfl⟩
     rw [hA] at hK⊢;clear hA hy hp;go_simp;exact hK _ _ ⟨Rbx.later HSZ.out ((Below.refl _ _).alloc (lZr _) _),fun _=>⟨_,_,rfl,HSZ.out,Blk.new _ _ _,rfl⟩,HJ.out.first dZc HLS.out HLJ.out⟩
    ·obtain ⟨hLi,hfi⟩:=hp.out 11 dZc;have HLI:=hZz hLi;obtain ⟨gx,Cx,e1,hgB,hgb,hgk⟩:Fb (wx.drew).heap.size 78 4 (y 6) w9:=hfi dZc;have e2:y 25=.agg #[.int .u64 av,.int .u32 ft,.int .u32 0,.int .i64 fa]:=(hp.out 10 dZc).2 dZc;have HGB0:=hZz hgb;obtain ⟨c0,c1,c2,c3,rfl⟩:=ws hgk;have HGB:=hZz hgb;have q0:w9.cell? ⟨gx,0,none⟩=some c0:=hgb.cell 0;have q1:w9.cell? ⟨gx,1,none⟩=some c1:=hgb.cell 1;have q2:w9.cell? ⟨gx,2,none⟩=some c2:=hgb.cell 2;have q3:w9.cell? ⟨gx,3,none⟩=some c3:=hgb.cell 3;have f0:w9.frozen? ⟨gx,0,none⟩=false:=hgb.frozen 0;have f1:w9.frozen? ⟨gx,1,none⟩=false:=hgb.frozen 1;have f2:w9.frozen? ⟨gx,2,none⟩=false:=hgb.frozen 2;have f3:w9.frozen? ⟨gx,3,none⟩=false:=hgb.frozen 3;have hgl:=hgb.lt;clear hgb HGB0 hgk hfi;intro K Q hK;clear hcl hL;obtain ⟨A,hA,v1,v2⟩:=evA2 (n:=40) e1 e2 dZc dZc;rw [hA] at hK⊢;clear hA hy hp;go_simp;exact hK undef _ ⟨(((((Rbx.refl _ w9).set hgB 0 (.int .u64 av)).set hgB 1 (.int .u32 ft)).set hgB 2 (.int .u32 0)).set hgB 3 (.int .i64 fa)),fun _=>True.intro,HJ.out.second HLI.out HLS.out hgB HGB.out (HGB.out.all4 (.int .u64 av) (.int .u32 ft) (.int .u32 0) (.int .i64 fa)) (((((Rbx.refl _ w9).set hgB 0 (.int .u64 av)).set hgB 1 (.int .u32 ft)).set hgB 2 (.int .u32 0)).set hgB 3 (.int .i64 fa)) (fun g' C1 h0=>by obtain ⟨_,h1⟩:=h0.unset;obtain ⟨_,h2⟩:=h1.unset;obtain ⟨_,h3⟩:=h2.unset;obtain ⟨_,h4⟩:=h3.unset;exact ⟨_,h4⟩)⟩
  ·obtain rfl:q=fxn:=by omega
   clear hst hbx;go_wp2;go_ret;refine ⟨⟨_,rfl,?_⟩,HST.out.bel⟩;rw [lS];exact aR HST.out.own (Nat.le_succ _)
end Go.Proofs.YtclgbdfkdbbinaaGreat
