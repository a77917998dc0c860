/-
  What is proved here: words and contracts, a part of those that the statement rests on (B20).
  Conditions: none but that the arguments are values of their types.
-/
import Derived.Test.YtclgbdfkdbbinaaGreatB0
import Derived.Test.YtclgbdfkdbbinaaGreatB18
import Derived.Test.YtclgbdfkdbbinaaGreatB19
import Derived.Test.YtclgbdfkdbbinaaGreatB2
import Derived.Test.YtclgbdfkdbbinaaGreatB17
import Derived.Test.YtclgbdfkdbbinaaGreatB8
import Derived.Test.YtclgbdfkdbbinaaGreatB1
import Derived.Test.YtclgbdfkdbbinaaGreatB5
import Derived.Test.YtclgbdfkdbbinaaGreatB4
import Derived.Deep.Cut
import Derived.Deep.DeepCutAuto
set_option linter.unusedVariables false
set_option linter.unusedSimpArgs false
set_option maxRecDepth 100000
set_option maxHeartbeats 12800000
namespace Go.Proofs.YtclgbdfkdbbinaaGreat
open Go.RowKit
structure bm (w wx:World) (C:Array Value) (ct:TypeId) (e:TypeId) (k:Nat) (l:Value) (n:Nat) (xs:List Value):Prop where
 own:wx.ownsRow (w.heap.size+1) e k l n xs
 box:Blk wx w.heap.size C ct
 bel:Below w.heap.size w wx
theorem bm.later {w wx w':World} {C:Array Value} {ct e:TypeId} {k n:Nat} {l:Value} {xs:List Value} (h:bm w wx C ct e k l n xs) (hb:Below wx.heap.size wx w'):bm w w' C ct e k l n xs:=
 ⟨h.own.kept (row:=none) ⟨hb.os,hb.tape,hb.output,hb.size,fun k hk _=>hb.block k hk⟩ (by cases l.ownBlock<;>simp),h.box.later hb,h.bel.trans (hb.mono h.bel.size)⟩
theorem bm.alloc {w wx:World} {C:Array Value} {ct e:TypeId} {k n:Nat} {l:Value} {xs:List Value} (h:bm w wx C ct e k l n xs) (o:Obj):bm w (wx.alloc o) C ct e k l n xs:=h.later ((Below.refl _ _).alloc (lZr _) o)
theorem bm.drew {w wx:World} {C:Array Value} {ct e:TypeId} {k n:Nat} {l:Value} {xs:List Value} (h:bm w wx C ct e k l n xs):bm w wx.drew C ct e k l n xs:=h.later (Below.refl _ _).drew
theorem bm.app {w wx w':World} {C:Array Value} {ct e:TypeId} {k n:Nat} {l l':Value} {xs ys:List Value} {o:Obj} (h:bm w wx C ct e k l n xs) (ho:w'.ownsRow (w.heap.size+1) e k l' (n+1) ys) (hg:(wx.alloc o).grownBy w' l.ownBlock):bm w w' C ct e k l' (n+1) ys:=by
 refine ⟨ho,((h.box.alloc o).grown hg (fun e=>?_)),(h.bel.alloc h.bel.size o).grown hg (by have:=h.bel.size;simp;omega) (fun q e=>?_)⟩
 ·have:=(h.own.lt _ e.symm).1;omega
 ·have:=(h.own.lt q e).1;omega
theorem az {w:World} {base n k:Nat} {e:TypeId} {v:Value} {xs:List Value} (h:w.ownsRow base e k v n xs):∃a c,v=.slice a n c∧n≤c∧(c:Int)≤9223372036854775807:=by
 rcases h.2 with ⟨hv,e0⟩ | ⟨g,c,cur,hv,_,_,h1,h2,_⟩
 ·exact ⟨none,0,by rw [hv,e0],by omega,by omega⟩
 ·exact ⟨_,_,hv,h1,by unfold maxLen at h2;omega⟩
def SlN (n:Nat):Value→World→Prop:=fun u _=>∃a c,u=.slice a n c
theorem SlN.monoR (R:World→World→Prop) (n:Nat):iU R (SlN n):=fun _ _ _ h _=>h
def gd (x:Bu):Int:=if 0<x.s.co.n then IntKind.u64.wrap (x.i.cp+x.s.en) else 0
theorem nf (x:Bu) (w:World) (hx:x.Ok) (hk:x.s.k=2∨x.s.k=3) :
 Calls Tryz.prog 71 #[x.val] w fun r w'=>(∃u,r=.returned u∧w'.ownsRow w.heap.size 5 1 u 64 ((enc x.s.k (gd x) 64 (cH x).length).map (Value.int .u8)))∧Below w.heap.size w w':=by
 have hc:=hx.co.i;have hcp:=hx.i.cp;have HSG:=hZz (fun w1=>jB x w1 hx);have hln:=jA x;obtain ⟨n,hn⟩:∃n,(cH x).length=n:=⟨_,rfl⟩
 rw [hn] at hln HSG⊢;obtain ⟨L,hL⟩:∃L,cH x=L:=⟨_,rfl⟩
 rw [hL] at HSG;clear hn hL;obtain ⟨ey,hey⟩:∃ey,gd x=ey:=⟨_,rfl⟩
 have hyb:cw ey:=by rw [←hey];unfold gd;split;exact pN _;exact eB
 rw [hey];obtain ⟨⟨k,so,⟨nda,ndn,ndc⟩,en,⟨coa,con,coc⟩,⟨daa,dan,dac⟩,bz,⟨tla,tln,tlc⟩,tz,⟨dfa,dfn,dfc⟩,⟨fxa,fxn,fxc⟩⟩,⟨tba,tbn,tbc⟩,⟨pda,pdn,pdc⟩,⟨pna,pnn,pnc⟩,⟨v0,v1,v2,v3,v4,v5,v6,dy,fr,cp,dp,tp⟩⟩:=x;have HPU:Hid (∀w1,Calls Tryz.prog 87 #[cU k ey 64 n] w1 fun r w'=>(∃u,r=.returned (.tuple #[u,.int .i64 0])∧w'.ownsRow w1.heap.size 5 1 u 64 ((enc k ey 64 n).map (Value.int .u8)))∧Below w1.heap.size w1 w'):=hZz (fun w1=>
  li k ey 64 n w1 (dF.2 (by simp only at hk;omega)) hyb.1 hyb.2 dZc dZc)
 unfold cU at HPU;unfold Bu.val at HSG;unfold Bu.val;unfold gd at hey;simp only at hc hcp hk HSG hey⊢;obtain ⟨E,hE⟩:∃E,enc k ey 64 n=E:=⟨_,rfl⟩
 rw [hE] at HPU⊢;clear hx hk hE;have HEY:=hZz hey;clear hey;have hni:(n:Int)≤5:=by omega
 have HBX:Hid (Blk (w.alloc (.cells #[.int .i64 k,.string so,.slice nda ndn ndc,.int .u64 en,.slice coa con coc,.slice daa dan dac,.int .u64 bz,.slice tla tln tlc,.int .u64 tz,.slice dfa dfn dfc,.slice fxa fxn fxc,.slice tba tbn tbc,.slice pda pdn pdc,.slice pna pnn pnc,.int .u64 v0,.int .u64 v1,.int .u64 v2,.int .u64 v3,.int .u64 v4,.int .u64 v5,.int .u64 v6,.int .u64 dy,.int .u64 fr,.int .u64 cp,.int .u64 dp,.int .u64 tp] 84)) w.heap.size #[.int .i64 k,.string so,.slice nda ndn ndc,.int .u64 en,.slice coa con coc,.slice daa dan dac,.int .u64 bz,.slice tla tln tlc,.int .u64 tz,.slice dfa dfn dfc,.slice fxa fxn fxc,.slice tba tbn tbc,.slice pda pdn pdc,.slice pna pnn pnc,.int .u64 v0,.int .u64 v1,.int .u64 v2,.int .u64 v3,.int .u64 v4,.int .u64 v5,.int .u64 v6,.int .u64 dy,.int .u64 fr,.int .u64 cp,.int .u64 dp,.int .u64 tp] 84):=hZz (Blk.new _ _ _);have HBE:Hid (Below w.heap.size w (w.alloc (.cells #[.int .i64 k,.string so,.slice nda ndn ndc,.int .u64 en,.slice coa con coc,.slice daa dan dac,.int .u64 bz,.slice tla tln tlc,.int .u64 tz,.slice dfa dfn dfc,.slice fxa fxn fxc,.slice tba tbn tbc,.slice pda pdn pdc,.slice pna pnn pnc,.int .u64 v0,.int .u64 v1,.int .u64 v2,.int .u64 v3,.int .u64 v4,.int .u64 v5,.int .u64 v6,.int .u64 dy,.int .u64 fr,.int .u64 cp,.int .u64 dp,.int .u64 tp] 84))):=hZz ((Below.refl _ _).alloc (lZr _) _);go_enter Tryz.func71,Tryz.ntmps71
 go_upto_region 1 with fail
 obtain ⟨wx,hwx⟩:∃wx,w.alloc (.cells #[.int .i64 k,.string so,.slice nda ndn ndc,.int .u64 en,.slice coa con coc,.slice daa dan dac,.int .u64 bz,.slice tla tln tlc,.int .u64 tz,.slice dfa dfn dfc,.slice fxa fxn fxc,.slice tba tbn tbc,.slice pda pdn pdc,.slice pna pnn pnc,.int .u64 v0,.int .u64 v1,.int .u64 v2,.int .u64 v3,.int .u64 v4,.int .u64 v5,.int .u64 v6,.int .u64 dy,.int .u64 fr,.int .u64 cp,.int .u64 dp,.int .u64 tp] 84)=wx:=⟨_,rfl⟩
 rw [hwx] at HBX HBE;rw [hwx];clear hwx;have HPB:Hid (∀w9,Below wx.drew.heap.size wx.drew w9→Blk w9 w.heap.size #[.int .i64 k,.string so,.slice nda ndn ndc,.int .u64 en,.slice coa con coc,.slice daa dan dac,.int .u64 bz,.slice tla tln tlc,.int .u64 tz,.slice dfa dfn dfc,.slice fxa fxn fxc,.slice tba tbn tbc,.slice pda pdn pdc,.slice pna pnn pnc,.int .u64 v0,.int .u64 v1,.int .u64 v2,.int .u64 v3,.int .u64 v4,.int .u64 v5,.int .u64 v6,.int .u64 dy,.int .u64 fr,.int .u64 cp,.int .u64 dp,.int .u64 tp] 84):=hZz (fun w9 hb=>HBX.out.drew.later hb);go_wp2_with fail;refine jR (by kernel_rfl) 31 rfl [6,7,8,9,10,11,12,3,31] (fun _ _=>True) (aU [Is (.pointer (some ⟨w.heap.size,0,none⟩)),Is (.pointer (some ⟨w.heap.size,0,none⟩)),Is (.int .i64 k),Is (.agg #[.int .i64 k,.string so,.slice nda ndn ndc,.int .u64 en,.slice coa con coc,.slice daa dan dac,.int .u64 bz,.slice tla tln tlc,.int .u64 tz,.slice dfa dfn dfc,.slice fxa fxn fxc,.slice tba tbn tbc,.slice pda pdn pdc,.slice pna pnn pnc,.int .u64 v0,.int .u64 v1,.int .u64 v2,.int .u64 v3,.int .u64 v4,.int .u64 v5,.int .u64 v6,.int .u64 dy,.int .u64 fr,.int .u64 cp,.int .u64 dp,.int .u64 tp]),SlN n,Is (.int .i64 n),Is (.agg #[.int .i64 k,.int .u64 0,.int .u64 64,.int .i64 n]),bD,bD]) 3 (Jy 7 8 (wx.drew) 26 #[.int .i64 k,.int .u64 0,.int .u64 64,.int .i64 n]) ?mono1 ?hj1 (by kernel_rfl) ?start1 ?steps1 ?fin1;case mono1=>exact aV (aa (Is.monoR _ _) (aa (Is.monoR _ _) (aa (Is.monoR _ _) (aa (Is.monoR _ _) (aa (SlN.monoR _ _) (aa (Is.monoR _ _) (aa (Is.monoR _ _) (aa (bD.monoR _) (aa (bD.monoR _) (bN _))))))))))
 case hj1=>exact Jy.congr dZc dZc
 case start1=>exact Jy.start
 case fin1=>
  intro v9 L w9 hJ hall hF;obtain ⟨gx,hgx,hgB,hgb,hbe⟩:=(hJ 7 rfl).done (hall 7 dZc) (hall 8 dZc);have f6:v9 0=.pointer (some ⟨w.heap.size,0,none⟩):=hF 0 dZc dZc;have f7:v9 1=.pointer (some ⟨w.heap.size,0,none⟩):=hF 1 dZc dZc;have f8:v9 2=.int .i64 k:=hF 2 dZc dZc;have f9:v9 3=.agg #[.int .i64 k,.string so,.slice nda ndn ndc,.int .u64 en,.slice coa con coc,.slice daa dan dac,.int .u64 bz,.slice tla tln tlc,.int .u64 tz,.slice dfa dfn dfc,.slice fxa fxn fxc,.slice tba tbn tbc,.slice pda pdn pdc,.slice pna pnn pnc,.int .u64 v0,.int .u64 v1,.int .u64 v2,.int .u64 v3,.int .u64 v4,.int .u64 v5,.int .u64 v6,.int .u64 dy,.int .u64 fr,.int .u64 cp,.int .u64 dp,.int .u64 tp]:=hF 3 dZc dZc;obtain ⟨fa10,fc10,f10⟩:SlN n (v9 4) w9:=hF 4 dZc dZc;have f11:v9 5=.int .i64 n:=hF 5 dZc dZc;have f12:v9 6=.agg #[.int .i64 k,.int .u64 0,.int .u64 64,.int .i64 n]:=hF 6 dZc dZc;clear hJ hall hF;simp only [aO,List.set_cons_succ,List.set_cons_zero,Nat.reduceAdd,hgx,f6,f7,f8,f9,f10,f11,f12];clear hgx f6 f7 f8 f9 f10 f11 f12;have HBE9:=hZz (HBE.out.drew.trans (hbe.mono HBE.out.drew.size));have hbx:=HPB.out _ hbe;have q4:w9.cell? ⟨w.heap.size,4,none⟩=some (.slice coa con coc):=hbx.cell 4;have q24:w9.cell? ⟨w.heap.size,24,none⟩=some (.int .u64 dp):=hbx.cell 24;have q23:w9.cell? ⟨w.heap.size,23,none⟩=some (.int .u64 cp):=hbx.cell 23;have q3:w9.cell? ⟨w.heap.size,3,none⟩=some (.int .u64 en):=hbx.cell 3;have hlw:=hbx.lt;obtain ⟨g0,g1,g2,g3⟩:=hgb.c4;have z1:=hgb.frozen 1;have hgl:=hgb.lt;have HGB:=hZz hgb;have HGL:=hZz (Nat.le_trans HBE.out.drew.size hgB);clear hbe hbx hgb hgB HPB HBX HBE;by_cases h1:0<con
  ·have h1i:(0:Int)<con:=by omega
   have he:=HEY.out;rw [if_pos h1] at he;have HS9:Hid (Below w.heap.size w (w9.setCell ⟨gx,1,none⟩ (.int .u64 ey))):=hZz (HBE9.out.setCell (HGL.out) _);clear h1;go_wp2_with fail;refine (HPU.out _).mono ?_;rintro r w5 ⟨⟨u,rfl,ho⟩,hb⟩;have HO:=hZz (bL ho (Nat.le_trans HS9.out.size (lZr _)));have HB5:=hZz (HS9.out.trans (hb.mono HS9.out.size));clear ho hb;go_wp2;go_ret;exact ⟨⟨_,rfl,HO.out⟩,HB5.out⟩
  ·have h1i:¬(0:Int)<con:=by omega
   have he:=HEY.out;rw [if_neg h1] at he;subst he;clear h1;go_wp2_with fail;refine (HPU.out _).mono ?_;rintro r w5 ⟨⟨u,rfl,ho⟩,hb⟩;have HO:=hZz (bL ho HBE9.out.size);have HB5:=hZz (HBE9.out.trans (hb.mono HBE9.out.size));clear ho hb;go_wp2;go_ret;exact ⟨⟨_,rfl,HO.out⟩,HB5.out⟩
 case steps1=>
  refine ⟨?_,?_,?_,?_,?_,?_,?_,?_,?_,trivial⟩;all_goals intro L y w9 hJ hL hy0 hp0 hcl hun
  all_goals have hy:=hZz hy0
  all_goals have hp:=hZz hp0
  all_goals have HJ:=hZz hJ
  all_goals have HB:=hZz hJ.1
  all_goals have HSZ:=hZz hJ.1.size
  all_goals clear hy0 hp0 hun hJ
  ·have e1:y 1=.pointer (some ⟨w.heap.size,0,none⟩):=hy.out 1 dZc;intro K Q hK;clear hcl hL;obtain ⟨A,hA,v1⟩:=evA1 (n:=31) e1 dZc;rw [hA] at hK⊢;clear hA hy hp;go_simp;exact hK _ _ ⟨trivial,fun _=>rfl,HJ.out.pure dZc dZc⟩
  ·have e1:y 6=.pointer (some ⟨w.heap.size,0,none⟩):=(hp.out 0 dZc).2 dZc;intro K Q hK;clear hcl hL;obtain ⟨A,hA,v1⟩:=evA1 (n:=31) e1 dZc;rw [hA] at hK⊢;clear hA hy hp;go_simp;exact hK _ _ ⟨trivial,fun _=>rfl,HJ.out.pure dZc dZc⟩
  ·have e1:y 7=.pointer (some ⟨w.heap.size,0,none⟩):=(hp.out 1 dZc).2 dZc;have q0:w9.cell? ⟨w.heap.size,0,none⟩=some (.int .i64 k):=(HPB.out _ HB.out).cell 0;have hl1:=(HPB.out _ HB.out).lt;intro K Q hK;clear hcl hL;obtain ⟨A,hA,v1⟩:=evA1 (n:=31) e1 dZc;rw [hA] at hK⊢;clear hA hy hp;go_simp;exact hK _ _ ⟨trivial,fun _=>rfl,HJ.out.pure dZc dZc⟩
  ·have e1:y 1=.pointer (some ⟨w.heap.size,0,none⟩):=hy.out 1 dZc;intro K Q hK;clear hcl hL;have v1:=(ax 31 y [] (t:=1) dZc).trans e1;obtain ⟨A,hA⟩:∃A,(⟨af 31 y,[]⟩:Act)=A:=⟨_,rfl⟩
   rw [hA] at v1 hK⊢;clear hA hy hp;refine wp_load_row 84 (.tmp 1) rfl (w.heap.size) v1 _ _ (0,0) _ ((HPB.out _ HB.out)) Tryz.underlying84 rfl (by kernel_rfl) ?_;exact hK _ _ ⟨trivial,fun _=>rfl,HJ.out.pure dZc dZc⟩
  ·have e1:y 9=.agg #[.int .i64 k,.string so,.slice nda ndn ndc,.int .u64 en,.slice coa con coc,.slice daa dan dac,.int .u64 bz,.slice tla tln tlc,.int .u64 tz,.slice dfa dfn dfc,.slice fxa fxn fxc,.slice tba tbn tbc,.slice pda pdn pdc,.slice pna pnn pnc,.int .u64 v0,.int .u64 v1,.int .u64 v2,.int .u64 v3,.int .u64 v4,.int .u64 v5,.int .u64 v6,.int .u64 dy,.int .u64 fr,.int .u64 cp,.int .u64 dp,.int .u64 tp]:=(hp.out 3 dZc).2 dZc;intro K Q hK;clear hcl hL;obtain ⟨A,hA,v1⟩:=evA1 (n:=31) e1 dZc;rw [hA] at hK⊢;clear hA hy hp;go_simp;go_at_call 67
   refine (HSG.out w9).mono ?_;rintro r w7 ⟨⟨u,rfl,ho⟩,hb7⟩;obtain ⟨ua,uc,rfl,-,-⟩:=dH ho;exact hK _ _ ⟨trivial,fun _=>⟨_,_,rfl⟩,HJ.out.call dZc dZc hb7⟩
  ·obtain ⟨xa,xc,e1⟩:SlN n (y 10) w9:=(hp.out 4 dZc).2 dZc;intro K Q hK;clear hcl hL;obtain ⟨A,hA,v1⟩:=evA1 (n:=31) e1 dZc;rw [hA] at hK⊢;clear hA hy hp;go_simp;exact hK _ _ ⟨trivial,fun _=>rfl,HJ.out.pure dZc dZc⟩
  ·have e1:y 8=.int .i64 k:=(hp.out 2 dZc).2 dZc;have e2:y 11=.int .i64 n:=(hp.out 5 dZc).2 dZc;intro K Q hK;clear hcl hL;obtain ⟨A,hA,v1,v2⟩:=evA2 (n:=31) e1 e2 dZc dZc;rw [hA] at hK⊢;clear hA hy hp;rw [Array.getD_eq_getD_getElem?] at v1 v2;go_simp;exact hK _ _ ⟨trivial,fun _=>rfl,HJ.out.pure dZc dZc⟩
  ·have HLJ:Hid (L 8=false):=hZz (by
    cases h:L 8 with
    | false=>rfl
    | true=>have:=(hcl 8 _ rfl h 7 dZc);rw [hL] at this;cases this)
   intro K Q hK;clear hcl hL;obtain ⟨A,hA⟩:∃A,(⟨af 31 y,[]⟩:Act)=A:=⟨_,rfl⟩
   rw [hA] at hK⊢;clear hA hy hp;go_simp;exact hK _ _ ⟨trivial,fun _=>True.intro,HJ.out.first dZc HLJ.out rfl⟩
  ·have HLI:=hZz (hp.out 7 dZc).1;obtain ⟨gx,Cx,e1,hgB,hgb,hgk⟩:=HJ.out.at HLI.out;have HEQ:=hZz e1;have e2:y 12=.agg #[.int .i64 k,.int .u64 0,.int .u64 64,.int .i64 n]:=(hp.out 6 dZc).2 dZc;obtain ⟨c0,c1,c2,c3,rfl⟩:=ws hgk;have HGB:=hZz hgb;have q0:w9.cell? ⟨gx,0,none⟩=some c0:=hgb.cell 0;have q1:w9.cell? ⟨gx,1,none⟩=some c1:=hgb.cell 1;have q2:w9.cell? ⟨gx,2,none⟩=some c2:=hgb.cell 2;have q3:w9.cell? ⟨gx,3,none⟩=some c3:=hgb.cell 3;have f0:w9.frozen? ⟨gx,0,none⟩=false:=hgb.frozen 0;have f1:w9.frozen? ⟨gx,1,none⟩=false:=hgb.frozen 1;have f2:w9.frozen? ⟨gx,2,none⟩=false:=hgb.frozen 2;have f3:w9.frozen? ⟨gx,3,none⟩=false:=hgb.frozen 3;have hgl:=hgb.lt;clear hgb hgk;intro K Q hK;clear hcl hL;obtain ⟨A,hA,v1,v2⟩:=evA2 (n:=31) e1 e2 dZc dZc;rw [hA] at hK⊢;clear hA hy hp;go_simp;exact hK undef _ ⟨trivial,fun _=>True.intro,HJ.out.second HEQ.out hgB (HGB.out.all4 (.int .i64 k) (.int .u64 0) (.int .u64 64) (.int .i64 n)) (((((Below.refl _ _).setCell hgB (.int .i64 k)).setCell hgB (.int .u64 0)).setCell hgB (.int .u64 64)).setCell hgB (.int .i64 n))⟩
theorem eE (base:Nat) (v:Value) (m:Nat) (zs:List Int) (x:Int) (n:Nat) (w:World) (ho:w.ownsRow base 5 1 v m (zs.map (Value.int .u8))) (hbase:base≤w.heap.size) (hm:m+n≤1000000) (x0:0≤x) (x1:x≤18446744073709551615) :
 Calls Tryz.prog 83 #[v,.int .u64 x,.int .i64 n] w fun r w'=>∃v',r=.returned v'∧w'.ownsRow base 5 1 v' (m+n) ((zs++ai x n).map (Value.int .u8))∧Below base w w':=by
 obtain ⟨i0,hi,hz0,hz1,hz2⟩:=info_parts aM;have HO:=hZz ho;have HI:=hZz hi;have HZ0:=hZz hz0;have HZ1:=hZz hz1;have HZ2:=hZz hz2;have hni:(n:Int)≤1000000:=by omega
 clear ho hi hz0 hz1 hz2;go_enter Tryz.func83,Tryz.ntmps83
 go_wp2;go_loopw [0,1,7] (fun v' y i wr=>∃k:Nat,k≤n∧i=.int .i64 k∧y=.int .u64 (x / 256 ^ k)∧wr.ownsRow base 5 1 v' (m+k) ((zs++ai x k).map (Value.int .u8))∧Below base w wr) (fun _ _ i _=>n-(intOf i).toNat)
 case atStart=>exact ⟨0,Nat.zero_le _,rfl,by simp,by simpa [ai] using HO.out,Below.refl _ _⟩
 case round=>
  obtain ⟨k,hk,rfl,rfl,hown,hbel⟩:=hrel;by_cases hlt:k<n
  ·have hdv:=hZz (fZ x k);have hdg:Hid (ai x (k+1)=ai x k++[x / 256 ^ k % 256]):=hZz rfl;have hy0:0≤x / 256 ^ k:=Int.ediv_nonneg x0 (Int.pow_nonneg dZc);have hy1:x / 256 ^ k≤18446744073709551615:=Int.le_trans (Int.ediv_le_self _ x0) x1;generalize x / 256 ^ k=y at hdv hdg hy0 hy1⊢;have hsz:=hbel.size;have HOWN:=hZz hown;clear hown;go_wp2_with (at_builtin;refine wpList_append_own _ rfl _ _ 22 rfl base 5 i0 (.int .u8 0) 1 1 Tryz.underlying22 HI.out HZ0.out HZ1.out HZ2.out rfl dZc _ (m+k) _ rfl (HOWN.out.alloc _) ⟨wr.heap.size,0,none⟩ 1 1 [.int .u8 (y % 256)] rfl rfl ?c1 ?c2 ?c3 ?c4 ?c5 ?_);case c1=>exact cell_one_new _ _ _
   case c2=>intro u hu;obtain rfl:=List.mem_singleton.1 hu;rfl
   case c3=>unfold maxLen;omega
   case c4=>omega
   case c5=>simp;omega
   intro v2 w2 hown2 hg2 hnil2;have hb2:Below base w w2:=(hbel.alloc oZm _).grown hg2 (by simp;omega) (fun q e=>(HOWN.out.lt q e).1);have HO2:Hid (w2.ownsRow base 5 1 v2 (m+(k+1)) ((zs++ai x (k+1)).map (Value.int .u8))):=hZz (by
    rw [hdg.out];simpa only [List.map_append,List.append_assoc,List.map_cons,List.map_nil,Nat.add_assoc] using hown2)
   clear hown2 hg2 hnil2 hbel;go_wp2;go_roundw
   case rel=>exact ⟨k+1,by omega,by go_num,by rw [hdv.out],HO2.out,hb2⟩
   case measure=>simp [intOf];omega
  ·obtain rfl:k=n:=by omega
   have HOW:=hZz hown;clear hown;go_wp2;go_ret;exact ⟨_,rfl,HOW.out,hbel⟩
def cP (s:Sg):List (List Int):=[ai s.ty 4,ai s.fl 4,ai s.ot 8,ai s.va 8,ai s.va 8,ai s.fi 8,ai s.me 8,ai s.al 8]
def aT (s:Sg) (k:Nat):List Int:=((cP s).take k).flatten
theorem ri (s:Sg):aT s 0=[]:=rfl
theorem sj (s:Sg):aT s 0++ai s.ty 4=aT s 1:=by simp [aT,cP]
theorem rX (s:Sg):aT s 1++ai s.fl 4=aT s 2:=by simp [aT,cP]
theorem uj (s:Sg):aT s 2++ai s.ot 8=aT s 3:=by simp [aT,cP]
theorem us (s:Sg):aT s 3++ai s.va 8=aT s 4:=by simp [aT,cP]
theorem tJ (s:Sg):aT s 4++ai s.va 8=aT s 5:=by simp [aT,cP]
theorem tM (s:Sg):aT s 5++ai s.fi 8=aT s 6:=by simp [aT,cP]
theorem ud (s:Sg):aT s 6++ai s.me 8=aT s 7:=by simp [aT,cP]
theorem ut (s:Sg):aT s 7++ai s.al 8=aT s 8:=by simp [aT,cP]
theorem wb (s:Sg):(aT s 0).length=0:=by simp [aT,cP,ay]
theorem xl (s:Sg):(aT s 1).length=4:=by simp [aT,cP,ay]
theorem wZ (s:Sg):(aT s 2).length=8:=by simp [aT,cP,ay]
theorem xr (s:Sg):(aT s 3).length=16:=by simp [aT,cP,ay]
theorem xm (s:Sg):(aT s 4).length=24:=by simp [aT,cP,ay]
theorem vW (s:Sg):(aT s 5).length=32:=by simp [aT,cP,ay]
theorem we (s:Sg):(aT s 6).length=40:=by simp [aT,cP,ay]
theorem wY (s:Sg):(aT s 7).length=48:=by simp [aT,cP,ay]
theorem wR (s:Sg):(aT s 8).length=56:=by simp [aT,cP,ay]
theorem ol (s:Sg):aT s 8=bH s:=by simp [aT,cP,bH]
theorem dh (s:Sg) (w:World) (h:s.Ok) :
 Calls Tryz.prog 39 #[s.val] w fun r w'=>(∃u,r=.returned u∧w'.ownsRow w.heap.size 5 1 u 56 ((bH s).map (Value.int .u8)))∧Below w.heap.size w w':=by
 have HCAT:=hZz (ol s);have HC1:=hZz (sj s);have HC2:=hZz (rX s);have HC3:=hZz (uj s);have HC4:=hZz (us s);have HC5:=hZz (tJ s);have HC6:=hZz (tM s);have HC7:=hZz (ud s);have HC8:=hZz (ut s);obtain ⟨⟨a0,a1⟩,⟨b0,b1⟩,⟨c0,c1⟩,⟨d0,d1⟩,⟨e0,e1⟩,⟨f0,f1⟩,⟨g0,g1⟩⟩:=h;obtain ⟨ty,fl,ot,va,fi,me,al⟩:=s;simp only at a0 a1 b0 b1 c0 c1 d0 d1 e0 e1 f0 f1 g0 g1 HC1 HC2 HC3 HC4 HC5 HC6 HC7 HC8;generalize hS:(⟨ty,fl,ot,va,fi,me,al⟩:Sg)=S at HC1 HC2 HC3 HC4 HC5 HC6 HC7 HC8 HCAT⊢;have HQ:Hid (∀w',Below (w.heap.size+1) (w.alloc (.cells #[.int .u32 ty,.int .u32 fl,.int .u64 ot,.int .u64 va,.int .u64 fi,.int .u64 me,.int .u64 al] 65)) w'→Blk w' w.heap.size #[.int .u32 ty,.int .u32 fl,.int .u64 ot,.int .u64 va,.int .u64 fi,.int .u64 me,.int .u64 al] 65∧w.heap.size+1≤w'.heap.size):=hZz (fun w' hb=>
  ⟨(Blk.new w _ _).below hb (Nat.lt_succ_self _),by have:=hb.size;simp at this;omega⟩)
 have HB0:Hid (Below (w.heap.size+1) (w.alloc (.cells #[.int .u32 ty,.int .u32 fl,.int .u64 ot,.int .u64 va,.int .u64 fi,.int .u64 me,.int .u64 al] 65)) (w.alloc (.cells #[.int .u32 ty,.int .u32 fl,.int .u64 ot,.int .u64 va,.int .u64 fi,.int .u64 me,.int .u64 al] 65))):=hZz (Below.refl _ _);have HBW:Hid (Below w.heap.size w (w.alloc (.cells #[.int .u32 ty,.int .u32 fl,.int .u64 ot,.int .u64 va,.int .u64 fi,.int .u64 me,.int .u64 al] 65))):=hZz ((Below.refl _ _).alloc (lZr _) _);have HO0:Hid ((w.alloc (.cells #[.int .u32 ty,.int .u32 fl,.int .u64 ot,.int .u64 va,.int .u64 fi,.int .u64 me,.int .u64 al] 65)).ownsRow (w.heap.size+1) 5 1 (.slice none 0 0) 0 ((aT S 0).map (Value.int .u8))):=hZz (by rw [ri];exact World.ownsRow_nil _ _ _ _);rw [←hS];unfold Sg.val;simp only
 rw [hS];clear hS;go_enter Tryz.func39,Tryz.ntmps39
 go_wp2_with fail;refine (eE (w.heap.size+1) _ 0 (aT S 0) ty 4 _ HO0.out (HQ.out _ HB0.out).2 dZc oZm oZm).mono ?_;rintro r w1 ⟨v1,rfl,ho,hb⟩;rw [HC1.out] at ho;have HO1:=hZz ho;have HB1:=hZz (HB0.out.trans hb);obtain ⟨q0,q1,q2,q3,q4,q5,q6⟩:=(HQ.out _ HB1.out).1.c7;clear ho hb;go_wp2_with fail;refine (eE (w.heap.size+1) _ 4 (aT S 1) fl 4 _ HO1.out (HQ.out _ HB1.out).2 dZc oZm oZm).mono ?_;rintro r w2 ⟨v2,rfl,ho,hb⟩;rw [HC2.out] at ho;have HO2:=hZz ho;have HB2:=hZz (HB1.out.trans hb);obtain ⟨q0,q1,q2,q3,q4,q5,q6⟩:=(HQ.out _ HB2.out).1.c7;clear ho hb;go_wp2_with fail;refine (eE (w.heap.size+1) _ 8 (aT S 2) ot 8 _ HO2.out (HQ.out _ HB2.out).2 dZc oZm oZm).mono ?_;rintro r w3 ⟨v3,rfl,ho,hb⟩;rw [HC3.out] at ho;have HO3:=hZz ho;have HB3:=hZz (HB2.out.trans hb);obtain ⟨q0,q1,q2,q3,q4,q5,q6⟩:=(HQ.out _ HB3.out).1.c7;clear ho hb;go_wp2_with fail;refine (eE (w.heap.size+1) _ 16 (aT S 3) va 8 _ HO3.out (HQ.out _ HB3.out).2 dZc oZm oZm).mono ?_;rintro r w4 ⟨v4,rfl,ho,hb⟩;rw [HC4.out] at ho;have HO4:=hZz ho;have HB4:=hZz (HB3.out.trans hb);obtain ⟨q0,q1,q2,q3,q4,q5,q6⟩:=(HQ.out _ HB4.out).1.c7;clear ho hb;go_wp2_with fail;refine (eE (w.heap.size+1) _ 24 (aT S 4) va 8 _ HO4.out (HQ.out _ HB4.out).2 dZc oZm oZm).mono ?_;rintro r w5 ⟨v5,rfl,ho,hb⟩;rw [HC5.out] at ho;have HO5:=hZz ho;have HB5:=hZz (HB4.out.trans hb);obtain ⟨q0,q1,q2,q3,q4,q5,q6⟩:=(HQ.out _ HB5.out).1.c7;clear ho hb;go_wp2_with fail;refine (eE (w.heap.size+1) _ 32 (aT S 5) fi 8 _ HO5.out (HQ.out _ HB5.out).2 dZc oZm oZm).mono ?_;rintro r w6 ⟨v6,rfl,ho,hb⟩;rw [HC6.out] at ho;have HO6:=hZz ho;have HB6:=hZz (HB5.out.trans hb);obtain ⟨q0,q1,q2,q3,q4,q5,q6⟩:=(HQ.out _ HB6.out).1.c7;clear ho hb;go_wp2_with fail;refine (eE (w.heap.size+1) _ 40 (aT S 6) me 8 _ HO6.out (HQ.out _ HB6.out).2 dZc oZm oZm).mono ?_;rintro r w7 ⟨v7,rfl,ho,hb⟩;rw [HC7.out] at ho;have HO7:=hZz ho;have HB7:=hZz (HB6.out.trans hb);obtain ⟨q0,q1,q2,q3,q4,q5,q6⟩:=(HQ.out _ HB7.out).1.c7;clear ho hb;go_wp2_with fail;refine (eE (w.heap.size+1) _ 48 (aT S 7) al 8 _ HO7.out (HQ.out _ HB7.out).2 dZc oZm oZm).mono ?_;rintro r w8 ⟨v8,rfl,ho,hb⟩;rw [HC8.out] at ho;have HO8:=hZz ho;have HB8:=hZz (HB7.out.trans hb);obtain ⟨q0,q1,q2,q3,q4,q5,q6⟩:=(HQ.out _ HB8.out).1.c7;clear ho hb;go_wp2;go_ret;refine ⟨⟨_,rfl,?_⟩,HBW.out.trans (HB8.out.mono (Nat.le_succ _))⟩;rw [←HCAT.out];exact bL HO8.out (Nat.le_succ _)
theorem oC (s:Sg) (w:World) (h:s.Ok) :
 Calls Tryz.prog 73 #[s.val] w fun r w'=>(∃u,r=.returned u∧w'.ownsRow w.heap.size 5 1 u 56 ((bH s).map (Value.int .u8)))∧Below w.heap.size w w':=by
 obtain ⟨i0,hi,hz0,hz1,hz2⟩:=info_parts aM;have HI:=hZz hi;have HZ0:=hZz hz0;have HZ1:=hZz hz1;have HZ2:=hZz hz2;have HCAT:=hZz (ol s);have HC1:=hZz (sj s);have HC2:=hZz (rX s);have HC3:=hZz (uj s);have HC4:=hZz (us s);have HC5:=hZz (tJ s);have HC6:=hZz (tM s);have HC7:=hZz (ud s);have HC8:=hZz (ut s);have HL0:=hZz (wb s);have HL1:=hZz (xl s);have HL2:=hZz (wZ s);have HL3:=hZz (xr s);have HL4:=hZz (xm s);have HL5:=hZz (vW s);have HL6:=hZz (we s);have HL7:=hZz (wY s);have HL8:=hZz (wR s);obtain ⟨⟨a0,a1⟩,⟨b0,b1⟩,⟨c0,c1⟩,⟨d0,d1⟩,⟨e0,e1⟩,⟨f0,f1⟩,⟨g0,g1⟩⟩:=h;obtain ⟨ty,fl,ot,va,fi,me,al⟩:=s;simp only at a0 a1 b0 b1 c0 c1 d0 d1 e0 e1 f0 f1 g0 g1 HC1 HC2 HC3 HC4 HC5 HC6 HC7 HC8;clear hi hz0 hz1 hz2;have HBW:Hid (Below w.heap.size w (w.alloc (.cells #[.int .u32 ty,.int .u32 fl,.int .u64 ot,.int .u64 va,.int .u64 fi,.int .u64 me,.int .u64 al] 65))):=hZz ((Below.refl _ _).alloc (lZr _) _);have HK0:=hZz (Blk.new w #[.int .u32 ty,.int .u32 fl,.int .u64 ot,.int .u64 va,.int .u64 fi,.int .u64 me,.int .u64 al] 65);generalize hS:(⟨ty,fl,ot,va,fi,me,al⟩:Sg)=S at HC1 HC2 HC3 HC4 HC5 HC6 HC7 HC8 HL0 HL1 HL2 HL3 HL4 HL5 HL6 HL7 HL8 HCAT⊢;rw [←hS];unfold Sg.val;simp only
 rw [hS];clear hS;have HQ:Hid (∀w',Below (w.heap.size+1) (w.alloc (.cells #[.int .u32 ty,.int .u32 fl,.int .u64 ot,.int .u64 va,.int .u64 fi,.int .u64 me,.int .u64 al] 65)) w'→Blk w' w.heap.size #[.int .u32 ty,.int .u32 fl,.int .u64 ot,.int .u64 va,.int .u64 fi,.int .u64 me,.int .u64 al] 65∧w.heap.size+1≤w'.heap.size):=hZz (fun w' hb=>
  ⟨(Blk.new w _ _).below hb (Nat.lt_succ_self _),by have:=hb.size;simp at this;omega⟩)
 have ia0:∀w,(Instr.index 176 (.agg #[.int .u32 ty,.int .u32 fl]) (.int .i64 0)).run Tryz.prog w=.ok (.int .u32 ty) w:=fun _=>by kernel_rfl
 have ia1:∀w,(Instr.index 176 (.agg #[.int .u32 ty,.int .u32 fl]) (.int .i64 1)).run Tryz.prog w=.ok (.int .u32 fl) w:=fun _=>by kernel_rfl
 have ib0:∀w,(Instr.index 178 (.agg #[.int .u64 ot,.int .u64 va,.int .u64 va,.int .u64 fi,.int .u64 me,.int .u64 al]) (.int .i64 0)).run Tryz.prog w=.ok (.int .u64 ot) w:=fun _=>by kernel_rfl
 have ib1:∀w,(Instr.index 178 (.agg #[.int .u64 ot,.int .u64 va,.int .u64 va,.int .u64 fi,.int .u64 me,.int .u64 al]) (.int .i64 1)).run Tryz.prog w=.ok (.int .u64 va) w:=fun _=>by kernel_rfl
 have ib2:∀w,(Instr.index 178 (.agg #[.int .u64 ot,.int .u64 va,.int .u64 va,.int .u64 fi,.int .u64 me,.int .u64 al]) (.int .i64 2)).run Tryz.prog w=.ok (.int .u64 va) w:=fun _=>by kernel_rfl
 have ib3:∀w,(Instr.index 178 (.agg #[.int .u64 ot,.int .u64 va,.int .u64 va,.int .u64 fi,.int .u64 me,.int .u64 al]) (.int .i64 3)).run Tryz.prog w=.ok (.int .u64 fi) w:=fun _=>by kernel_rfl
 have ib4:∀w,(Instr.index 178 (.agg #[.int .u64 ot,.int .u64 va,.int .u64 va,.int .u64 fi,.int .u64 me,.int .u64 al]) (.int .i64 4)).run Tryz.prog w=.ok (.int .u64 me) w:=fun _=>by kernel_rfl
 have ib5:∀w,(Instr.index 178 (.agg #[.int .u64 ot,.int .u64 va,.int .u64 va,.int .u64 fi,.int .u64 me,.int .u64 al]) (.int .i64 5)).run Tryz.prog w=.ok (.int .u64 al) w:=fun _=>by kernel_rfl
 go_enter Tryz.func73,Tryz.ntmps73
 go_wp2_with (at_make;refine wpList_make_own _ rfl _ _ 22 rfl (w.heap.size+1) 5 i0 (.int .u8 0) 1 Tryz.underlying22 HI.out HZ0.out HZ1.out .i64 .i64 _ 56 rfl rfl rfl ?c1 ?c2 ?c3 ?_);case c1=>rw [HZ2.out];omega
 case c2=>unfold maxLen;omega
 case c3=>simp
 intro w1 hown hg;have hb1:Below (w.heap.size+1) (w.alloc (.cells #[.int .u32 ty,.int .u32 fl,.int .u64 ot,.int .u64 va,.int .u64 fi,.int .u64 me,.int .u64 al] 65)) w1:=(Below.refl _ _).grown hg (by simp) (fun _ e=>by cases e);obtain ⟨q0,q1,q2,q3,q4,q5,q6⟩:=(HQ.out _ hb1).1.c7;have HOWN:=hZz hown;have HB1:=hZz hb1;clear hown hg hb1;go_wp2;go_loopw [3,5,14] (fun v _ i wr=>∃k:Nat,k≤2∧i=.int .i64 k∧wr.ownsRow (w.heap.size+1) 5 1 v (aT S k).length ((aT S k).map (Value.int .u8))∧Below (w.heap.size+1) (w.alloc (.cells #[.int .u32 ty,.int .u32 fl,.int .u64 ot,.int .u64 va,.int .u64 fi,.int .u64 me,.int .u64 al] 65)) wr) (fun _ _ i _=>2-(intOf i).toNat)
 case atStart=>exact ⟨0,by decide,rfl,HOWN.out,HB1.out⟩
 case round=>
  obtain ⟨k,hk,rfl,hown,hbel⟩:=hrel;obtain rfl | rfl | rfl:k=0∨k=1∨k=2:=by omega
  ·have HOW:=hZz hown;have HBE:=hZz hbel;clear hown hbel;go_wp2_with fail;refine (cj ty 4 _ dZc oZm oZm).mono ?_;rintro r w2 ⟨⟨u,rfl,g,c,rfl,_,_,hm⟩,hb2⟩;rw [ay] at hm⊢;have HM:=hZz hm;have HB3:=hZz (HBE.out.trans (hb2.mono (HQ.out _ HBE.out).2));have HO2:=hZz (own_below HOW.out hb2);clear hm hb2;go_wp2_with (at_builtin;refine ag rfl _ _ 22 rfl (w.heap.size+1) 5 i0 (.int .u8 0) 1 Tryz.underlying22 HI.out HZ0.out HZ1.out HZ2.out rfl _ (aT S 0).length _ rfl HO2.out _ 4 c _ (ai ty 4) rfl HM.out (fun h=>by cases h) ?d0a ?d0b ?d0c ?_);case d0a=>rw [HL0.out];unfold maxLen;omega
   case d0b=>rw [HL0.out];omega
   case d0c=>exact (HQ.out _ HB3.out).2
   intro v3 w3 hown3 hg3;have hb4:=HB3.out.grown hg3 (HQ.out _ HB3.out).2 (fun q e=>(HO2.out.lt q e).1);have HO3:Hid (w3.ownsRow (w.heap.size+1) 5 1 v3 (aT S 1).length ((aT S 1).map (Value.int .u8))):=hZz (by
    rw [←HC1.out,lZa,ay,List.map_append];exact hown3)
   clear hown3 hg3;go_wp2;go_roundw
   case rel=>exact ⟨1,by decide,by go_num,HO3.out,hb4⟩
   case measure=>(simp [intOf]<;>omega)
  ·have HOW:=hZz hown;have HBE:=hZz hbel;clear hown hbel;go_wp2_with fail;refine (cj fl 4 _ dZc oZm oZm).mono ?_;rintro r w2 ⟨⟨u,rfl,g,c,rfl,_,_,hm⟩,hb2⟩;rw [ay] at hm⊢;have HM:=hZz hm;have HB3:=hZz (HBE.out.trans (hb2.mono (HQ.out _ HBE.out).2));have HO2:=hZz (own_below HOW.out hb2);clear hm hb2;go_wp2_with (at_builtin;refine ag rfl _ _ 22 rfl (w.heap.size+1) 5 i0 (.int .u8 0) 1 Tryz.underlying22 HI.out HZ0.out HZ1.out HZ2.out rfl _ (aT S 1).length _ rfl HO2.out _ 4 c _ (ai fl 4) rfl HM.out (fun h=>by cases h) ?d1a ?d1b ?d1c ?_);case d1a=>rw [HL1.out];unfold maxLen;omega
   case d1b=>rw [HL1.out];omega
   case d1c=>exact (HQ.out _ HB3.out).2
   intro v3 w3 hown3 hg3;have hb4:=HB3.out.grown hg3 (HQ.out _ HB3.out).2 (fun q e=>(HO2.out.lt q e).1);have HO3:Hid (w3.ownsRow (w.heap.size+1) 5 1 v3 (aT S 2).length ((aT S 2).map (Value.int .u8))):=hZz (by
    rw [←HC2.out,lZa,ay,List.map_append];exact hown3)
   clear hown3 hg3;go_wp2;go_roundw
   case rel=>exact ⟨2,by decide,by go_num,HO3.out,hb4⟩
   case measure=>(simp [intOf]<;>omega)
  ·rw [show ((2:Nat):Int)=2 from rfl];obtain ⟨q0,q1,q2,q3,q4,q5,q6⟩:=(HQ.out _ hbel).1.c7;have HOW:=hZz hown;have HBE:=hZz hbel;clear hown hbel;go_wp2;go_loopw [3,7,36] (fun v _ i wr=>∃k:Nat,k≤6∧i=.int .i64 k∧wr.ownsRow (w.heap.size+1) 5 1 v (aT S (2+k)).length ((aT S (2+k)).map (Value.int .u8))∧Below (w.heap.size+1) (w.alloc (.cells #[.int .u32 ty,.int .u32 fl,.int .u64 ot,.int .u64 va,.int .u64 fi,.int .u64 me,.int .u64 al] 65)) wr) (fun _ _ i _=>6-(intOf i).toNat)
   case atStart=>exact ⟨0,by decide,rfl,HOW.out,HBE.out⟩
   case round=>
    obtain ⟨k,hk,rfl,hown,hbel⟩:=hrel;obtain rfl | rfl | rfl | rfl | rfl | rfl | rfl:k=0∨k=1∨k=2∨k=3∨k=4∨k=5∨k=6:=by omega
    ·have HOW:=hZz hown;have HBE:=hZz hbel;clear hown hbel;go_wp2_with fail;refine (cj ot 8 _ dZc oZm oZm).mono ?_;rintro r w2 ⟨⟨u,rfl,g,c,rfl,_,_,hm⟩,hb2⟩;rw [ay] at hm⊢;have HM:=hZz hm;have HB3:=hZz (HBE.out.trans (hb2.mono (HQ.out _ HBE.out).2));have HO2:=hZz (own_below HOW.out hb2);clear hm hb2;go_wp2_with (at_builtin;refine ag rfl _ _ 22 rfl (w.heap.size+1) 5 i0 (.int .u8 0) 1 Tryz.underlying22 HI.out HZ0.out HZ1.out HZ2.out rfl _ (aT S 2).length _ rfl HO2.out _ 8 c _ (ai ot 8) rfl HM.out (fun h=>by cases h) ?d2a ?d2b ?d2c ?_);case d2a=>rw [HL2.out];unfold maxLen;omega
     case d2b=>rw [HL2.out];omega
     case d2c=>exact (HQ.out _ HB3.out).2
     intro v3 w3 hown3 hg3;have hb4:=HB3.out.grown hg3 (HQ.out _ HB3.out).2 (fun q e=>(HO2.out.lt q e).1);have HO3:Hid (w3.ownsRow (w.heap.size+1) 5 1 v3 (aT S 3).length ((aT S 3).map (Value.int .u8))):=hZz (by
      rw [←HC3.out,lZa,ay,List.map_append];exact hown3)
     clear hown3 hg3;go_wp2;go_roundw
     case rel=>exact ⟨1,by decide,by go_num,HO3.out,hb4⟩
     case measure=>(simp [intOf]<;>omega)
    ·have HOW:=hZz hown;have HBE:=hZz hbel;clear hown hbel;go_wp2_with fail;refine (cj va 8 _ dZc oZm oZm).mono ?_;rintro r w2 ⟨⟨u,rfl,g,c,rfl,_,_,hm⟩,hb2⟩;rw [ay] at hm⊢;have HM:=hZz hm;have HB3:=hZz (HBE.out.trans (hb2.mono (HQ.out _ HBE.out).2));have HO2:=hZz (own_below HOW.out hb2);clear hm hb2;go_wp2_with (at_builtin;refine ag rfl _ _ 22 rfl (w.heap.size+1) 5 i0 (.int .u8 0) 1 Tryz.underlying22 HI.out HZ0.out HZ1.out HZ2.out rfl _ (aT S 3).length _ rfl HO2.out _ 8 c _ (ai va 8) rfl HM.out (fun h=>by cases h) ?d3a ?d3b ?d3c ?_);case d3a=>rw [HL3.out];unfold maxLen;omega
     case d3b=>rw [HL3.out];omega
     case d3c=>exact (HQ.out _ HB3.out).2
     intro v3 w3 hown3 hg3;have hb4:=HB3.out.grown hg3 (HQ.out _ HB3.out).2 (fun q e=>(HO2.out.lt q e).1);have HO3:Hid (w3.ownsRow (w.heap.size+1) 5 1 v3 (aT S 4).length ((aT S 4).map (Value.int .u8))):=hZz (by
      rw [←HC4.out,lZa,ay,List.map_append];exact hown3)
     clear hown3 hg3;go_wp2;go_roundw
     case rel=>exact ⟨2,by decide,by go_num,HO3.out,hb4⟩
     case measure=>(simp [intOf]<;>omega)
    ·have HOW:=hZz hown;have HBE:=hZz hbel;clear hown hbel;go_wp2_with fail;refine (cj va 8 _ dZc oZm oZm).mono ?_;rintro r w2 ⟨⟨u,rfl,g,c,rfl,_,_,hm⟩,hb2⟩;rw [ay] at hm⊢;have HM:=hZz hm;have HB3:=hZz (HBE.out.trans (hb2.mono (HQ.out _ HBE.out).2));have HO2:=hZz (own_below HOW.out hb2);clear hm hb2;go_wp2_with (at_builtin;refine ag rfl _ _ 22 rfl (w.heap.size+1) 5 i0 (.int .u8 0) 1 Tryz.underlying22 HI.out HZ0.out HZ1.out HZ2.out rfl _ (aT S 4).length _ rfl HO2.out _ 8 c _ (ai va 8) rfl HM.out (fun h=>by cases h) ?d4a ?d4b ?d4c ?_);case d4a=>rw [HL4.out];unfold maxLen;omega
     case d4b=>rw [HL4.out];omega
     case d4c=>exact (HQ.out _ HB3.out).2
     intro v3 w3 hown3 hg3;have hb4:=HB3.out.grown hg3 (HQ.out _ HB3.out).2 (fun q e=>(HO2.out.lt q e).1);have HO3:Hid (w3.ownsRow (w.heap.size+1) 5 1 v3 (aT S 5).length ((aT S 5).map (Value.int .u8))):=hZz (by
      rw [←HC5.out,lZa,ay,List.map_append];exact hown3)
     clear hown3 hg3;go_wp2;go_roundw
     case rel=>exact ⟨3,by decide,by go_num,HO3.out,hb4⟩
     case measure=>(simp [intOf]<;>omega)
    ·have HOW:=hZz hown;have HBE:=hZz hbel;clear hown hbel;go_wp2_with fail;refine (cj fi 8 _ dZc oZm oZm).mono ?_;rintro r w2 ⟨⟨u,rfl,g,c,rfl,_,_,hm⟩,hb2⟩;rw [ay] at hm⊢;have HM:=hZz hm;have HB3:=hZz (HBE.out.trans (hb2.mono (HQ.out _ HBE.out).2));have HO2:=hZz (own_below HOW.out hb2);clear hm hb2;go_wp2_with (at_builtin;refine ag rfl _ _ 22 rfl (w.heap.size+1) 5 i0 (.int .u8 0) 1 Tryz.underlying22 HI.out HZ0.out HZ1.out HZ2.out rfl _ (aT S 5).length _ rfl HO2.out _ 8 c _ (ai fi 8) rfl HM.out (fun h=>by cases h) ?d5a ?d5b ?d5c ?_);case d5a=>rw [HL5.out];unfold maxLen;omega
     case d5b=>rw [HL5.out];omega
     case d5c=>exact (HQ.out _ HB3.out).2
     intro v3 w3 hown3 hg3;have hb4:=HB3.out.grown hg3 (HQ.out _ HB3.out).2 (fun q e=>(HO2.out.lt q e).1);have HO3:Hid (w3.ownsRow (w.heap.size+1) 5 1 v3 (aT S 6).length ((aT S 6).map (Value.int .u8))):=hZz (by
      rw [←HC6.out,lZa,ay,List.map_append];exact hown3)
     clear hown3 hg3;go_wp2;go_roundw
     case rel=>exact ⟨4,by decide,by go_num,HO3.out,hb4⟩
     case measure=>(simp [intOf]<;>omega)
    ·have HOW:=hZz hown;have HBE:=hZz hbel;clear hown hbel;go_wp2_with fail;refine (cj me 8 _ dZc oZm oZm).mono ?_;rintro r w2 ⟨⟨u,rfl,g,c,rfl,_,_,hm⟩,hb2⟩;rw [ay] at hm⊢;have HM:=hZz hm;have HB3:=hZz (HBE.out.trans (hb2.mono (HQ.out _ HBE.out).2));have HO2:=hZz (own_below HOW.out hb2);clear hm hb2;go_wp2_with (at_builtin;refine ag rfl _ _ 22 rfl (w.heap.size+1) 5 i0 (.int .u8 0) 1 Tryz.underlying22 HI.out HZ0.out HZ1.out HZ2.out rfl _ (aT S 6).length _ rfl HO2.out _ 8 c _ (ai me 8) rfl HM.out (fun h=>by cases h) ?d6a ?d6b ?d6c ?_);case d6a=>rw [HL6.out];unfold maxLen;omega
     case d6b=>rw [HL6.out];omega
     case d6c=>exact (HQ.out _ HB3.out).2
     intro v3 w3 hown3 hg3;have hb4:=HB3.out.grown hg3 (HQ.out _ HB3.out).2 (fun q e=>(HO2.out.lt q e).1);have HO3:Hid (w3.ownsRow (w.heap.size+1) 5 1 v3 (aT S 7).length ((aT S 7).map (Value.int .u8))):=hZz (by
      rw [←HC7.out,lZa,ay,List.map_append];exact hown3)
     clear hown3 hg3;go_wp2;go_roundw
     case rel=>exact ⟨5,by decide,by go_num,HO3.out,hb4⟩
     case measure=>(simp [intOf]<;>omega)
    ·have HOW:=hZz hown;have HBE:=hZz hbel;clear hown hbel;go_wp2_with fail;refine (cj al 8 _ dZc oZm oZm).mono ?_;rintro r w2 ⟨⟨u,rfl,g,c,rfl,_,_,hm⟩,hb2⟩;rw [ay] at hm⊢;have HM:=hZz hm;have HB3:=hZz (HBE.out.trans (hb2.mono (HQ.out _ HBE.out).2));have HO2:=hZz (own_below HOW.out hb2);clear hm hb2;go_wp2_with (at_builtin;refine ag rfl _ _ 22 rfl (w.heap.size+1) 5 i0 (.int .u8 0) 1 Tryz.underlying22 HI.out HZ0.out HZ1.out HZ2.out rfl _ (aT S 7).length _ rfl HO2.out _ 8 c _ (ai al 8) rfl HM.out (fun h=>by cases h) ?d7a ?d7b ?d7c ?_);case d7a=>rw [HL7.out];unfold maxLen;omega
     case d7b=>rw [HL7.out];omega
     case d7c=>exact (HQ.out _ HB3.out).2
     intro v3 w3 hown3 hg3;have hb4:=HB3.out.grown hg3 (HQ.out _ HB3.out).2 (fun q e=>(HO2.out.lt q e).1);have HO3:Hid (w3.ownsRow (w.heap.size+1) 5 1 v3 (aT S 8).length ((aT S 8).map (Value.int .u8))):=hZz (by
      rw [←HC8.out,lZa,ay,List.map_append];exact hown3)
     clear hown3 hg3;go_wp2;go_roundw
     case rel=>exact ⟨6,by decide,by go_num,HO3.out,hb4⟩
     case measure=>(simp [intOf]<;>omega)
    ·have HOF:Hid (wr.ownsRow (w.heap.size+1) 5 1 _ (aT S 8).length ((aT S 8).map (Value.int .u8))):=hZz hown;have HBF:=hZz hbel;clear hown hbel;go_wp2;go_ret;refine ⟨⟨_,rfl,?_⟩,HBW.out.trans (HBF.out.mono (Nat.le_succ _))⟩;have:=bL HOF.out (Nat.le_succ w.heap.size);rw [HL8.out,HCAT.out] at this;exact this
theorem qJ (s:Sg) (w:World) (h:s.Ok) :
 Calls Tryz.prog 73 #[s.val] w fun r w'=>(∃u,r=.returned u∧kv (bH s) u w')∧Below w.heap.size w w':=by
 refine (oC s w h).mono ?_;rintro r w' ⟨⟨u,rfl,ho⟩,hb⟩;exact ⟨⟨u,rfl,mZ (by rw [bB];exact ho) (by rw [bB];decide) (dT s)⟩,hb⟩
def qg (zs:List Int) (u:Value) (w:World):Prop:=∃g c,u=.slice (some ⟨g,0,none⟩) zs.length c∧zs.length≤c∧(c:Int)≤9223372036854775807∧Bys w w.heap.size (some ⟨g,0,none⟩) zs.length zs
theorem oe {w:World} {base:Nat} {u:Value} {zs:List Int} (h:w.ownsRow base 5 1 u zs.length (zs.map (Value.int .u8))) (h0:0<zs.length) (hz:∀n∈zs,0≤n∧n≤255):qg zs u w:=by
 obtain ⟨g,c,rfl,_⟩:=gO h h0;have hcap:zs.length≤c∧c≤maxLen:=by
  rcases h.2 with ⟨hx,_⟩ | ⟨g,c,cur,hx,_,_,h3,h4,_⟩
  ·cases hx
  ·injection hx with _ _ hx;subst hx;exact ⟨h3,h4⟩
 exact ⟨g,c,rfl,hcap.1,by have:=hcap.2;unfold maxLen at this;omega,Bys.own hz h⟩
end Go.Proofs.YtclgbdfkdbbinaaGreat
