/-
  What is proved here: words and contracts, a part of those that the statement rests on (B19).
  Conditions: none but that the arguments are values of their types.
-/
import Derived.Test.YtclgbdfkdbbinaaGreatB0
import Derived.Test.YtclgbdfkdbbinaaGreatB18
import Derived.Test.YtclgbdfkdbbinaaGreatB2
import Derived.Test.YtclgbdfkdbbinaaGreatB7
import Derived.Test.YtclgbdfkdbbinaaGreatB4
import Derived.Test.YtclgbdfkdbbinaaGreatB1
import Derived.Deep.Cut
import Derived.Deep.DeepCutAuto
import Derived.BigQuiet
import Derived.Deep.QuietTactic
set_option linter.unusedVariables false
set_option linter.unusedSimpArgs false
set_option maxRecDepth 100000
set_option maxHeartbeats 12800000
namespace Go.Proofs.YtclgbdfkdbbinaaGreat
open Go.RowKit
structure em (w wx:World) (C:Array Value) (l:Value) (L:List Sg):Prop where
 own:wx.ownsRow (w.heap.size+1) 65 7 l L.length (bQ L)
 box:Blk wx w.heap.size C 84
 bel:Below w.heap.size w wx
theorem em.later {w wx w':World} {C:Array Value} {l:Value} {L:List Sg} (h:em w wx C l L) (hb:Below wx.heap.size wx w'):em w w' C l L:=
 ⟨lE h.own hb,h.box.later hb,h.bel.trans (hb.mono h.bel.size)⟩
theorem em.alloc {w wx:World} {C:Array Value} {l:Value} {L:List Sg} (h:em w wx C l L) (o:Obj):em w (wx.alloc o) C l L:=h.later ((Below.refl _ _).alloc (lZr _) o)
theorem em.app {w wx w':World} {C:Array Value} {l l':Value} {L:List Sg} {s:Sg} {o:Obj} (h:em w wx C l L) (ho:w'.ownsRow (w.heap.size+1) 65 7 l' (L.length+1) (bQ L++[.int .u32 s.ty,.int .u32 s.fl,.int .u64 s.ot,.int .u64 s.va,.int .u64 s.fi,.int .u64 s.me,.int .u64 s.al])) (hg:(wx.alloc o).grownBy w' l.ownBlock):em w w' C l' (L++[s]):=by
 refine ⟨by rw [lZa,lp];exact ho,((h.box.alloc o).grown hg (fun e=>?_)),(h.bel.alloc h.bel.size o).grown hg (by have:=h.bel.size;simp;omega) (fun q e=>?_)⟩
 ·have:=(h.own.lt _ e.symm).1;omega
 ·have:=(h.own.lt q e).1;omega
theorem jB (x:Bu) (w:World) (hx:x.Ok) :
 Calls Tryz.prog 67 #[x.val] w fun r w'=>(∃u,r=.returned u∧w'.ownsRow w.heap.size 65 7 u (cH x).length (bQ (cH x)))∧Below w.heap.size w w':=by
 obtain ⟨i0,hI,hz0,hz1,hz2⟩:=info_parts nT;have HI:=hZz hI;have HZ0:=hZz hz0;have HZ1:=hZz hz1;have HZ2:=hZz hz2;clear hI hz0 hz1 hz2;have hc:=hx.co.i;have hd:=hx.da.i;have ht:=hx.tl.i;have hbz:=hx.bs;have htz:=hx.tz;have ufr:=hx.i.fr;obtain ⟨LL,hLL⟩:∃LL,cH x=LL:=⟨_,rfl⟩
 rw [hLL];unfold cH at hLL;obtain ⟨⟨k,so,⟨nda,ndn,ndc⟩,en,⟨coa,con,coc⟩,⟨daa,dan,dac⟩,bz,⟨tla,tln,tlc⟩,tz,⟨dfa,dfn,dfc⟩,⟨fxa,fxn,fxc⟩⟩,⟨tba,tbn,tbc⟩,⟨pda,pdn,pdc⟩,⟨pna,pnn,pnc⟩,⟨v0,v1,v2,v3,v4,v5,v6,dy,fr,cp,dp,tp⟩⟩:=x;clear hx;unfold Bu.val;simp only at hc hd ht hbz htz ufr hLL⊢;have ucon:cw (con:Int):=⟨by omega,by omega⟩
 have utln:cw (tln:Int):=⟨by omega,by omega⟩
 have udan:cw (dan:Int):=⟨by omega,by omega⟩
 obtain ⟨q,hq⟩:∃q,IntKind.u64.wrap (v1-dy)=q:=⟨_,rfl⟩
 have uq:cw q:=by rw [←hq];exact pN _
 have HQQ:=hZz hq;obtain ⟨dt,hdt⟩:∃dt,mP dan tln ⟨v0,v1,v2,v3,v4,v5,v6,dy,fr,cp,dp,tp⟩=dt:=⟨_,rfl⟩
 have udt:cw dt:=by rw [←hdt];unfold mP;split;exact pN _;exact udan
 have HDT:=hZz hdt;obtain ⟨L1,hL1⟩:∃L1,lQ con ⟨v0,v1,v2,v3,v4,v5,v6,dy,fr,cp,dp,tp⟩=L1:=⟨_,rfl⟩
 obtain ⟨L2,hL2⟩:∃L2,lm dan tln bz ⟨v0,v1,v2,v3,v4,v5,v6,dy,fr,cp,dp,tp⟩=L2:=⟨_,rfl⟩
 obtain ⟨L3,hL3⟩:∃L3,ma ⟨v0,v1,v2,v3,v4,v5,v6,dy,fr,cp,dp,tp⟩=L3:=⟨_,rfl⟩
 obtain ⟨L4,hL4⟩:∃L4,mX tln tz ⟨v0,v1,v2,v3,v4,v5,v6,dy,fr,cp,dp,tp⟩=L4:=⟨_,rfl⟩
 rw [hL1,hL2,hL3,hL4] at hLL;have HLL:=hZz hLL;have HLB:Hid (L1.length≤2∧L2.length≤1):=hZz (by rw [←hL1,←hL2];unfold lQ lm;constructor<;>split<;>simp);have HL0:Hid (L1=[dM 1 4 0 fr 0]++if 0<con then [dM 1 5 cp con 0] else []):=hZz hL1.symm;have HL2:Hid (L2=if 0<dt∨0<bz then [{ dM 1 6 dp dt bz with ot:=if dt=0 then 0 else dp }] else []):=hZz (by rw [←hL2];unfold lm;simp only;rw [hdt]);have HL3:Hid (L3=[dM 2 4 dy q 0]):=hZz (by rw [←hL3];unfold ma;simp only;rw [hq]);have HL4:Hid (L4=if 0<tln then [dM 7 4 tp tln tz] else if 0<tz then [dM 7 4 0 0 tz] else []):=hZz hL4.symm;clear hLL hL1 hL2 hL3 hL4 hdt hq;obtain ⟨C,hC⟩:∃C:Array Value,C=#[.int .i64 k,.string so,.slice nda ndn ndc,.int .u64 en,.slice coa con coc,.slice daa dan dac,.int .u64 bz,.slice tla tln tlc,.int .u64 tz,.slice dfa dfn dfc,.slice fxa fxn fxc,.slice tba tbn tbc,.slice pda pdn pdc,.slice pna pnn pnc,.int .u64 v0,.int .u64 v1,.int .u64 v2,.int .u64 v3,.int .u64 v4,.int .u64 v5,.int .u64 v6,.int .u64 dy,.int .u64 fr,.int .u64 cp,.int .u64 dp,.int .u64 tp]:=⟨_,rfl⟩
 have HCC:Hid (∀wx,Blk wx w.heap.size C 84→Blk wx w.heap.size #[.int .i64 k,.string so,.slice nda ndn ndc,.int .u64 en,.slice coa con coc,.slice daa dan dac,.int .u64 bz,.slice tla tln tlc,.int .u64 tz,.slice dfa dfn dfc,.slice fxa fxn fxc,.slice tba tbn tbc,.slice pda pdn pdc,.slice pna pnn pnc,.int .u64 v0,.int .u64 v1,.int .u64 v2,.int .u64 v3,.int .u64 v4,.int .u64 v5,.int .u64 v6,.int .u64 dy,.int .u64 fr,.int .u64 cp,.int .u64 dp,.int .u64 tp] 84):=hZz (fun wx h=>by rw [←hC];exact h);have HBX:Hid (Blk (w.alloc (.cells #[.int .i64 k,.string so,.slice nda ndn ndc,.int .u64 en,.slice coa con coc,.slice daa dan dac,.int .u64 bz,.slice tla tln tlc,.int .u64 tz,.slice dfa dfn dfc,.slice fxa fxn fxc,.slice tba tbn tbc,.slice pda pdn pdc,.slice pna pnn pnc,.int .u64 v0,.int .u64 v1,.int .u64 v2,.int .u64 v3,.int .u64 v4,.int .u64 v5,.int .u64 v6,.int .u64 dy,.int .u64 fr,.int .u64 cp,.int .u64 dp,.int .u64 tp] 84)) w.heap.size C 84):=hZz (by rw [hC];exact Blk.new _ _ _);have HBE:=hZz ((Below.refl w.heap.size w).alloc (lZr _) (.cells #[.int .i64 k,.string so,.slice nda ndn ndc,.int .u64 en,.slice coa con coc,.slice daa dan dac,.int .u64 bz,.slice tla tln tlc,.int .u64 tz,.slice dfa dfn dfc,.slice fxa fxn fxc,.slice tba tbn tbc,.slice pda pdn pdc,.slice pna pnn pnc,.int .u64 v0,.int .u64 v1,.int .u64 v2,.int .u64 v3,.int .u64 v4,.int .u64 v5,.int .u64 v6,.int .u64 dy,.int .u64 fr,.int .u64 cp,.int .u64 dp,.int .u64 tp] 84));clear hC;have HS0:=hZz (fun w1=>fk 1 4 0 fr 0 w1 ufr eB);obtain ⟨S0,hS0⟩:∃S0,dM 1 4 0 fr 0=S0:=⟨_,rfl⟩
 rw [hS0] at HS0 HL0;clear hS0;obtain ⟨s00,s01,s02,s03,s04,s05,s06⟩:=S0;unfold Sg.val at HS0;simp only at HS0 HL0;go_enter Tryz.func67,Tryz.ntmps67
 go_wp2_with fail;refine (HS0.out _).mono ?_;rintro r w0 ⟨rfl,hb0⟩;have HST0:Hid (em w (w0.alloc (.cells #[.int .u32 s00,.int .u32 s01,.int .u64 s02,.int .u64 s03,.int .u64 s04,.int .u64 s05,.int .u64 s06] 65)) C (.slice (some ⟨w0.heap.size,0,none⟩) 1 1) [⟨s00,s01,s02,s03,s04,s05,s06⟩]):=hZz ⟨⟨rfl,.inr ⟨_,_,_,rfl,by have:=hb0.size;simp at this;omega,Blk.new w0 #[.int .u32 s00,.int .u32 s01,.int .u64 s02,.int .u64 s03,.int .u64 s04,.int .u64 s05,.int .u64 s06] _,lZr _,by decide,rfl,rfl⟩⟩,(HBX.out.later hb0).alloc _,(HBE.out.trans (hb0.mono HBE.out.size)).alloc (by have:=HBE.out.size;have:=hb0.size;omega) _⟩;have hbx0:=HCC.out _ (HBX.out.later hb0);have HQ0:=hZz hbx0;have q4:w0.cell? ⟨w.heap.size,4,none⟩=some (.slice coa con coc):=(hbx0).cell 4;have hlt:w.heap.size<w0.heap.size:=(hbx0).lt;clear hb0 hbx0 HBX HBE HS0;go_upto_if 18 with fail
 go_cut [3] (fun l wx=>em w wx C l L1)
 case first=>
  by_cases h1:0<con
  ·have h1i:(0:Int)<con:=by omega
   have HL1:=HL0;rw [if_pos h1] at HL1;have HS1:=hZz (fun w1=>fk 1 5 cp con 0 w1 ucon eB);obtain ⟨S1,hS1⟩:∃S1,dM 1 5 cp con 0=S1:=⟨_,rfl⟩
   rw [hS1] at HS1 HL1;clear hS1;obtain ⟨s10,s11,s12,s13,s14,s15,s16⟩:=S1;unfold Sg.val at HS1;simp only at HS1 HL1;have q23:w0.cell? ⟨w.heap.size,23,none⟩=some (.int .u64 cp):=HQ0.out.cell 23;clear h1;go_wp2_with fail;refine (HS1.out _).mono ?_;rintro r w1 ⟨rfl,hb1⟩;have HT1:=hZz (HST0.out.later hb1);clear hb1;go_wp2_with (at_builtin;refine wpList_append_own _ rfl _ _ 27 rfl (w.heap.size+1) 65 i0 _ 7 48 Tryz.underlying27 HI.out HZ0.out HZ1.out HZ2.out rfl dZc _ [⟨s00,s01,s02,s03,s04,s05,s06⟩].length _ rfl (HT1.out.own.alloc _) _ 1 1 [.int .u32 s10,.int .u32 s11,.int .u64 s12,.int .u64 s13,.int .u64 s14,.int .u64 s15,.int .u64 s16] rfl rfl ?d1 ?d2 ?d3 ?d4 ?d5 ?_);case d1=>exact bT w1 [.int .u32 s10,.int .u32 s11,.int .u64 s12,.int .u64 s13,.int .u64 s14,.int .u64 s15,.int .u64 s16] _ _ (by simp)
   case d2=>intro u hu;simp at hu;rcases hu with rfl | rfl | rfl | rfl | rfl | rfl | rfl<;>rfl
   case d3=>have:=HLB.out;unfold maxLen;first | omega | (simp;omega) | simp
   case d4=>have:=HLB.out;first | omega | (simp;omega) | simp
   case d5=>have:=HT1.out.box.lt;simp;omega
   intro va1 wa1 hown hg _;have HA1:Hid (em w wa1 C va1 ([⟨s00,s01,s02,s03,s04,s05,s06⟩]++[⟨s10,s11,s12,s13,s14,s15,s16⟩])):=hZz (HT1.out.app (s:=⟨s10,s11,s12,s13,s14,s15,s16⟩) hown hg);clear hown hg HT1;go_wp2;go_meet
   case rel=>rw [HL1.out];exact HA1.out
  ·have h1i:¬(0:Int)<con:=by omega
   have HL1:=HL0;rw [if_neg h1] at HL1;clear h1;go_wp2;go_meet
   case rel=>rw [HL1.out];exact HST0.out
 case rest=>
  have HST1:=hZz hcut;obtain ⟨la,lc,hla,-,-⟩:=dH hcut.own;subst hla;have hbx1:=HCC.out _ hcut.box;have q4:wc.cell? ⟨w.heap.size,4,none⟩=some (.slice coa con coc):=(hbx1).cell 4;have q5:wc.cell? ⟨w.heap.size,5,none⟩=some (.slice daa dan dac):=(hbx1).cell 5;have q6:wc.cell? ⟨w.heap.size,6,none⟩=some (.int .u64 bz):=(hbx1).cell 6;have q7:wc.cell? ⟨w.heap.size,7,none⟩=some (.slice tla tln tlc):=(hbx1).cell 7;have q8:wc.cell? ⟨w.heap.size,8,none⟩=some (.int .u64 tz):=(hbx1).cell 8;have q15:wc.cell? ⟨w.heap.size,15,none⟩=some (.int .u64 v1):=(hbx1).cell 15;have q21:wc.cell? ⟨w.heap.size,21,none⟩=some (.int .u64 dy):=(hbx1).cell 21;have q22:wc.cell? ⟨w.heap.size,22,none⟩=some (.int .u64 fr):=(hbx1).cell 22;have q23:wc.cell? ⟨w.heap.size,23,none⟩=some (.int .u64 cp):=(hbx1).cell 23;have q24:wc.cell? ⟨w.heap.size,24,none⟩=some (.int .u64 dp):=(hbx1).cell 24;have q25:wc.cell? ⟨w.heap.size,25,none⟩=some (.int .u64 tp):=(hbx1).cell 25;have hlt:w.heap.size<wc.heap.size:=(hbx1).lt;clear hcut hbx1 HST0 HL0;go_upto_if 35 with fail
  go_cut [5] (fun v wx=>v=.int .u64 dt∧wx=wc)
  case first=>
   have hd9:=HDT.out;unfold mP at hd9;by_cases h2:0<tln
   ·have h2i:(0:Int)<tln:=by omega
    rw [if_pos h2] at hd9;simp only at hd9;clear h2;go_wp2;go_meet
    case rel=>exact ⟨by first | rfl | rw [hd9],rfl⟩
   ·have h2i:¬(0:Int)<tln:=by omega
    rw [if_neg h2] at hd9;clear h2;go_wp2;go_meet
    case rel=>exact ⟨by first | rfl | rw [hd9],rfl⟩
  case rest=>
   obtain ⟨hv,hw⟩:=hcut;subst hv;subst hw;clear HDT;go_upto_region 8 with fail
   go_cut [54] (fun v wx=>v=.bool (decide (0<dt∨0<bz))∧wx=wc)
   case first=>
    by_cases h3:0<dt
    ·have e3:decide (0<dt∨0<bz)=true:=decide_eq_true (.inl h3);have E3:=hZz e3;clear e3;go_wp2;go_meet
     case rel=>exact ⟨by rw [E3.out],rfl⟩
    ·have e3:decide (0<dt∨0<bz)=decide (0<bz):=by simp [h3]
     have E3:=hZz e3;clear e3;go_wp2;all_goals go_meet
     all_goals exact ⟨by rw [E3.out],rfl⟩
   case rest=>
    obtain ⟨hv,hw⟩:=hcut;subst hv;subst hw;obtain ⟨cb,hcb⟩:∃cb,decide (0<dt∨0<bz)=cb:=⟨_,rfl⟩
    rw [hcb];have HCB:=hZz hcb;clear hcb;go_upto_if 54 with fail
    go_cut [3] (fun l wx=>em w wx C l (L1++L2))
    case first=>
     cases cb with
     | true=>
       have hor:0<dt∨0<bz:=by simpa using HCB.out
       have HLD:=HL2;rw [if_pos hor] at HLD;by_cases h3:dt=0
       ·subst h3;rw [if_pos rfl] at HLD;have HL5:=HLD;have HS5:=hZz (fun w1=>fk 1 6 dp 0 bz w1 eB hbz);obtain ⟨S5,hS5⟩:∃S5,dM 1 6 dp 0 bz=S5:=⟨_,rfl⟩
        rw [hS5] at HS5 HL5;clear hS5;obtain ⟨s50,s51,s52,s53,s54,s55,s56⟩:=S5;unfold Sg.val at HS5;simp only at HS5 HL5;clear hor;go_wp2_with fail;refine (HS5.out _).mono ?_;rintro r w5 ⟨rfl,hb5⟩;have HT5:=hZz (HST1.out.later hb5);clear hb5;go_wp2_with (at_builtin;refine wpList_append_own _ rfl _ _ 27 rfl (w.heap.size+1) 65 i0 _ 7 48 Tryz.underlying27 HI.out HZ0.out HZ1.out HZ2.out rfl dZc _ L1.length _ rfl ((HT5.out.own.alloc _).alloc _) _ 1 1 [.int .u32 s50,.int .u32 s51,.int .u64 0,.int .u64 s53,.int .u64 s54,.int .u64 s55,.int .u64 s56] rfl rfl ?d1 ?d2 ?d3 ?d4 ?d5 ?_);case d1=>exact bT (w5.alloc _) [.int .u32 s50,.int .u32 s51,.int .u64 0,.int .u64 s53,.int .u64 s54,.int .u64 s55,.int .u64 s56] _ _ (by simp)
        case d2=>intro u hu;simp at hu;rcases hu with rfl | rfl | rfl | rfl | rfl | rfl | rfl<;>rfl
        case d3=>have:=HLB.out;unfold maxLen;first | omega | (simp;omega) | simp
        case d4=>have:=HLB.out;first | omega | (simp;omega) | simp
        case d5=>have:=HT5.out.box.lt;simp;omega
        intro va5 wa5 hown hg _;have HA5:Hid (em w wa5 C va5 (L1++[⟨s50,s51,0,s53,s54,s55,s56⟩])):=hZz ((HT5.out.alloc _).app (s:=⟨s50,s51,0,s53,s54,s55,s56⟩) hown hg);clear hown hg HT5;go_wp2;go_meet
        case rel=>rw [HL5.out];exact HA5.out
       ·have h3b:(dt==0)=false:=by simpa using h3
        rw [if_neg h3] at HLD;have HL5:Hid (L2=[dM 1 6 dp dt bz]):=HLD;have HS5:=hZz (fun w1=>fk 1 6 dp dt bz w1 udt hbz);obtain ⟨S5,hS5⟩:∃S5,dM 1 6 dp dt bz=S5:=⟨_,rfl⟩
        rw [hS5] at HS5 HL5;clear hS5;obtain ⟨s50,s51,s52,s53,s54,s55,s56⟩:=S5;unfold Sg.val at HS5;simp only at HS5 HL5;clear hor h3;go_wp2_with fail;refine (HS5.out _).mono ?_;rintro r w5 ⟨rfl,hb5⟩;have HT5:=hZz (HST1.out.later hb5);clear hb5;go_wp2_with (at_builtin;refine wpList_append_own _ rfl _ _ 27 rfl (w.heap.size+1) 65 i0 _ 7 48 Tryz.underlying27 HI.out HZ0.out HZ1.out HZ2.out rfl dZc _ L1.length _ rfl ((HT5.out.own.alloc _).alloc _) _ 1 1 [.int .u32 s50,.int .u32 s51,.int .u64 s52,.int .u64 s53,.int .u64 s54,.int .u64 s55,.int .u64 s56] rfl rfl ?d1 ?d2 ?d3 ?d4 ?d5 ?_);case d1=>exact bT (w5.alloc _) [.int .u32 s50,.int .u32 s51,.int .u64 s52,.int .u64 s53,.int .u64 s54,.int .u64 s55,.int .u64 s56] _ _ (by simp)
        case d2=>intro u hu;simp at hu;rcases hu with rfl | rfl | rfl | rfl | rfl | rfl | rfl<;>rfl
        case d3=>have:=HLB.out;unfold maxLen;first | omega | (simp;omega) | simp
        case d4=>have:=HLB.out;first | omega | (simp;omega) | simp
        case d5=>have:=HT5.out.box.lt;simp;omega
        intro va5 wa5 hown hg _;have HA5:Hid (em w wa5 C va5 (L1++[⟨s50,s51,s52,s53,s54,s55,s56⟩])):=hZz ((HT5.out.alloc _).app (s:=⟨s50,s51,s52,s53,s54,s55,s56⟩) hown hg);clear hown hg HT5;go_wp2;go_meet
        case rel=>rw [HL5.out];exact HA5.out
     | false=>
       have hor:¬(0<dt∨0<bz):=by simpa using HCB.out
       have HLD:=HL2;rw [if_neg hor] at HLD;clear hor;go_wp2;go_meet
       case rel=>rw [HLD.out,List.append_nil];exact HST1.out
    case rest=>
     obtain ⟨L,hL⟩:∃L,L1++L2=L:=⟨_,rfl⟩
     rw [hL] at hcut;have HL:=hZz hL;have HLN:Hid (L.length≤3):=hZz (by rw [←hL,lZa];have:=HLB.out;omega);clear hL q4 q5 q6 q7 q8 q15 q21 q22 q23 q24 q25 hlt;have HST2:=hZz hcut;obtain ⟨lb,ld,hlb,-,-⟩:=dH hcut.own;subst hlb;have hbx2:=HCC.out _ hcut.box;have q7:wc.cell? ⟨w.heap.size,7,none⟩=some (.slice tla tln tlc):=(hbx2).cell 7;have q8:wc.cell? ⟨w.heap.size,8,none⟩=some (.int .u64 tz):=(hbx2).cell 8;have q15:wc.cell? ⟨w.heap.size,15,none⟩=some (.int .u64 v1):=(hbx2).cell 15;have q21:wc.cell? ⟨w.heap.size,21,none⟩=some (.int .u64 dy):=(hbx2).cell 21;have q25:wc.cell? ⟨w.heap.size,25,none⟩=some (.int .u64 tp):=(hbx2).cell 25;have hlt:w.heap.size<wc.heap.size:=(hbx2).lt;have hq:=HQQ.out;clear hcut hbx2 HST1 HL2 HCB HLB;have HL6:=HL3;have HS6:=hZz (fun w1=>fk 2 4 dy q 0 w1 uq eB);obtain ⟨S6,hS6⟩:∃S6,dM 2 4 dy q 0=S6:=⟨_,rfl⟩
     rw [hS6] at HS6 HL6;clear hS6;obtain ⟨s60,s61,s62,s63,s64,s65,s66⟩:=S6;unfold Sg.val at HS6;simp only at HS6 HL6;go_wp2_with fail;refine (HS6.out _).mono ?_;rintro r w6 ⟨rfl,hb6⟩;have HT6:=hZz (HST2.out.later hb6);clear hb6;go_wp2_with (at_builtin;refine wpList_append_own _ rfl _ _ 27 rfl (w.heap.size+1) 65 i0 _ 7 48 Tryz.underlying27 HI.out HZ0.out HZ1.out HZ2.out rfl dZc _ L.length _ rfl (HT6.out.own.alloc _) _ 1 1 [.int .u32 s60,.int .u32 s61,.int .u64 s62,.int .u64 s63,.int .u64 s64,.int .u64 s65,.int .u64 s66] rfl rfl ?d1 ?d2 ?d3 ?d4 ?d5 ?_);case d1=>exact bT w6 [.int .u32 s60,.int .u32 s61,.int .u64 s62,.int .u64 s63,.int .u64 s64,.int .u64 s65,.int .u64 s66] _ _ (by simp)
     case d2=>intro u hu;simp at hu;rcases hu with rfl | rfl | rfl | rfl | rfl | rfl | rfl<;>rfl
     case d3=>have:=HLN.out;unfold maxLen;first | omega | (simp;omega) | simp
     case d4=>have:=HLN.out;first | omega | (simp;omega) | simp
     case d5=>have:=HT6.out.box.lt;simp;omega
     intro va6 wa6 hown hg _;have HA6:Hid (em w wa6 C va6 (L++[⟨s60,s61,s62,s63,s64,s65,s66⟩])):=hZz (HT6.out.app (s:=⟨s60,s61,s62,s63,s64,s65,s66⟩) hown hg);clear hown hg HT6;obtain ⟨L5,hL5⟩:∃L5,L++[⟨s60,s61,s62,s63,s64,s65,s66⟩]=L5:=⟨_,rfl⟩
     rw [hL5] at HA6;have HLM:Hid (L5.length≤4):=hZz (by rw [←hL5,lZa];have:=HLN.out;simp;omega);have HFI:Hid (LL=L5++L4):=hZz (by rw [←HLL.out,HL.out,HL6.out,hL5]);have hst6:=HA6.out;obtain ⟨lf,lg,hlf,-,-⟩:=dH hst6.own;subst hlf;have hbx6:=HCC.out _ hst6.box;clear hL5 hst6 hq q7 q8 q15 q21 q25 hlt HLN HL HLL HL6 HL3;have q7:wa6.cell? ⟨w.heap.size,7,none⟩=some (.slice tla tln tlc):=(hbx6).cell 7;have q8:wa6.cell? ⟨w.heap.size,8,none⟩=some (.int .u64 tz):=(hbx6).cell 8;have q25:wa6.cell? ⟨w.heap.size,25,none⟩=some (.int .u64 tp):=(hbx6).cell 25;have hlt:w.heap.size<wa6.heap.size:=(hbx6).lt;clear hbx6;have hL4:=HL4.out;by_cases h2:0<tln
     ·have h2i:(0:Int)<tln:=by omega
      rw [if_pos h2] at hL4;have HL7:=hZz hL4;clear hL4 h2;have HS7:=hZz (fun w1=>fk 7 4 tp tln tz w1 utln htz);obtain ⟨S7,hS7⟩:∃S7,dM 7 4 tp tln tz=S7:=⟨_,rfl⟩
      rw [hS7] at HS7 HL7;clear hS7;obtain ⟨s70,s71,s72,s73,s74,s75,s76⟩:=S7;unfold Sg.val at HS7;simp only at HS7 HL7;go_wp2_with fail;refine (HS7.out _).mono ?_;rintro r w7 ⟨rfl,hb7⟩;have HT7:=hZz (HA6.out.later hb7);clear hb7;go_wp2_with (at_builtin;refine wpList_append_own _ rfl _ _ 27 rfl (w.heap.size+1) 65 i0 _ 7 48 Tryz.underlying27 HI.out HZ0.out HZ1.out HZ2.out rfl dZc _ L5.length _ rfl (HT7.out.own.alloc _) _ 1 1 [.int .u32 s70,.int .u32 s71,.int .u64 s72,.int .u64 s73,.int .u64 s74,.int .u64 s75,.int .u64 s76] rfl rfl ?d1 ?d2 ?d3 ?d4 ?d5 ?_);case d1=>exact bT w7 [.int .u32 s70,.int .u32 s71,.int .u64 s72,.int .u64 s73,.int .u64 s74,.int .u64 s75,.int .u64 s76] _ _ (by simp)
      case d2=>intro u hu;simp at hu;rcases hu with rfl | rfl | rfl | rfl | rfl | rfl | rfl<;>rfl
      case d3=>have:=HLM.out;unfold maxLen;first | omega | (simp;omega) | simp
      case d4=>have:=HLM.out;first | omega | (simp;omega) | simp
      case d5=>have:=HT7.out.box.lt;simp;omega
      intro va7 wa7 hown hg _;have HA7:Hid (em w wa7 C va7 (L5++[⟨s70,s71,s72,s73,s74,s75,s76⟩])):=hZz (HT7.out.app (s:=⟨s70,s71,s72,s73,s74,s75,s76⟩) hown hg);clear hown hg HT7;go_wp2;go_ret;exact ⟨⟨_,rfl,by rw [HFI.out,HL7.out];exact ib HA7.out.own (Nat.le_succ _)⟩,HA7.out.bel⟩
     ·have h2i:¬(0:Int)<tln:=by omega
      rw [if_neg h2] at hL4;clear h2;by_cases h3:0<tz
      ·rw [if_pos h3] at hL4;have HL7:=hZz hL4;clear hL4;have HS7:=hZz (fun w1=>fk 7 4 0 0 tz w1 eB htz);obtain ⟨S7,hS7⟩:∃S7,dM 7 4 0 0 tz=S7:=⟨_,rfl⟩
       rw [hS7] at HS7 HL7;clear hS7;obtain ⟨s70,s71,s72,s73,s74,s75,s76⟩:=S7;unfold Sg.val at HS7;simp only at HS7 HL7;go_wp2_with fail;refine (HS7.out _).mono ?_;rintro r w7 ⟨rfl,hb7⟩;have HT7:=hZz (HA6.out.later hb7);clear hb7;go_wp2_with (at_builtin;refine wpList_append_own _ rfl _ _ 27 rfl (w.heap.size+1) 65 i0 _ 7 48 Tryz.underlying27 HI.out HZ0.out HZ1.out HZ2.out rfl dZc _ L5.length _ rfl (HT7.out.own.alloc _) _ 1 1 [.int .u32 s70,.int .u32 s71,.int .u64 s72,.int .u64 s73,.int .u64 s74,.int .u64 s75,.int .u64 s76] rfl rfl ?d1 ?d2 ?d3 ?d4 ?d5 ?_);case d1=>exact bT w7 [.int .u32 s70,.int .u32 s71,.int .u64 s72,.int .u64 s73,.int .u64 s74,.int .u64 s75,.int .u64 s76] _ _ (by simp)
       case d2=>intro u hu;simp at hu;rcases hu with rfl | rfl | rfl | rfl | rfl | rfl | rfl<;>rfl
       case d3=>have:=HLM.out;unfold maxLen;first | omega | (simp;omega) | simp
       case d4=>have:=HLM.out;first | omega | (simp;omega) | simp
       case d5=>have:=HT7.out.box.lt;simp;omega
       intro va7 wa7 hown hg _;have HA7:Hid (em w wa7 C va7 (L5++[⟨s70,s71,s72,s73,s74,s75,s76⟩])):=hZz (HT7.out.app (s:=⟨s70,s71,s72,s73,s74,s75,s76⟩) hown hg);clear hown hg HT7;go_wp2;go_ret;exact ⟨⟨_,rfl,by rw [HFI.out,HL7.out];exact ib HA7.out.own (Nat.le_succ _)⟩,HA7.out.bel⟩
      ·rw [if_neg h3] at hL4;have HL7:=hZz hL4;clear hL4;go_wp2;go_ret;exact ⟨⟨_,rfl,by rw [HFI.out,HL7.out,List.append_nil];exact ib HA6.out.own (Nat.le_succ _)⟩,HA6.out.bel⟩
theorem eN {w:World} {C' C:Array Value} {t T:TypeId} {g:Nat} (h:Blk (w.alloc (.cells C' t)) g C T):Blk w g C T∨(g=w.heap.size∧C=C'∧T=t):=by
 have hl:=h.lt;rw [World.size_alloc] at hl;by_cases hg:g=w.heap.size
 ·subst hg;have h1:=Blk.new w C' t;unfold Blk at h h1;rw [h1] at h;injection h with h;injection h with h2 h3;exact .inr ⟨rfl,h2.symm,h3.symm⟩
 ·left
  have hb:Below w.heap.size w (w.alloc (.cells C' t)):=(Below.refl _ _).alloc (lZr _) _;unfold Blk at h⊢;rw [←hb.block g (by omega)];exact h
theorem Blk.sets {w:World} {g g' i:Nat} {C:Array Value} {t:TypeId} (h:Blk w g C t) (v:Value):∃C',Blk (w.setCell ⟨g',i,none⟩ v) g C' t∧C'.size=C.size:=by
 by_cases e:g=g'
 ·subst e;exact ⟨_,h.set i v,by simp⟩
 ·exact ⟨C,h.setOther e v,rfl⟩
theorem Blk.unset {w:World} {g g' i:Nat} {C:Array Value} {t:TypeId} {v:Value} (h:Blk (w.setCell ⟨g',i,none⟩ v) g C t):∃C',Blk w g C' t:=by
 by_cases e:g=g'
 ·subst e;have hl:=h.lt;rw [World.size_setCell] at hl;unfold Blk at h⊢;simp only [World.setCell,Array.getElem?_modify,if_pos] at h;rw [Array.getElem?_eq_getElem hl] at h⊢;revert h;cases w.heap[g] with
  | cells C0 t0 f0=>
    intro h;simp at h;obtain ⟨h1,h2,h3⟩:=h;subst h2;subst h3;exact ⟨C0,rfl⟩
  | _=>intro h;simp at h
 ·unfold Blk at h⊢;rw [Below.heap_setCell _ _ _ _ e] at h;exact ⟨C,h⟩
theorem Blk.same {w:World} {g:Nat} {C C':Array Value} {t t':TypeId} (h:Blk w g C t) (h':Blk w g C' t'):C=C'∧t=t':=by
 unfold Blk at h h';rw [h'] at h;injection h with h;injection h with h2 h3;exact ⟨h2.symm,h3.symm⟩
def NoB (B0:Nat) (T:TypeId) (w:World):Prop:=∀g C,B0≤g→¬Blk w g C T
def OneB (B0:Nat) (T:TypeId) (w:World):Prop:=∀g g' C C',B0≤g→B0≤g'→Blk w g C T→Blk w g' C' T→g=g'
def AllB (B0:Nat) (T:TypeId) (V:Array Value) (w:World):Prop:=∀g C,B0≤g→Blk w g C T→C=V
structure Rbx (B0:Nat) (w w':World):Prop where
 bel:Below B0 w w'
 kp:∀g C T,B0≤g→Blk w g C T→∃C',Blk w' g C' T∧C'.size=C.size
theorem Rbx.refl (B0:Nat) (w:World):Rbx B0 w w:=⟨Below.refl _ _,fun g C T _ h=>⟨C,h,rfl⟩⟩
theorem Rbx.later {B0:Nat} {w w':World} (hB:B0≤w.heap.size) (h:Below w.heap.size w w'):Rbx B0 w w':=⟨h.mono hB,fun g C T _ hb=>⟨C,hb.later h,rfl⟩⟩
theorem Rbx.set {B0 g:Nat} {w w':World} (h:Rbx B0 w w') (hg:B0≤g) (i:Nat) (v:Value):Rbx B0 w (w'.setCell ⟨g,i,none⟩ v):=
 ⟨h.bel.setCell hg v,fun g' C T hB hb=>by
  obtain ⟨C1,h1,e1⟩:=h.kp g' C T hB hb;obtain ⟨C2,h2,e2⟩:=h1.sets (g':=g) (i:=i) v;exact ⟨C2,h2,e2.trans e1⟩⟩
def Fb (B0:Nat) (T:TypeId) (k:Nat) (u:Value) (w:World):Prop:=∃g C,u=.pointer (some ⟨g,0,none⟩)∧B0≤g∧Blk w g C T∧C.size=k
def iU (R:World→World→Prop) (f:Value→World→Prop):Prop:=∀u w w',f u w→R w w'→f u w'
theorem aV {R:World→World→Prop} {Fs:List (Value→World→Prop)} (h:∀f∈Fs,iU R f):∀(i:Nat) (u:Value) (w w':World),aU Fs i u w→R w w'→aU Fs i u w':=by
 intro i u w w' hf hb;unfold aU at *;rw [gZe] at *;cases e:Fs[i]? with
 | none=>trivial
 | some f=>
   rw [e] at hf;exact h f (List.mem_of_getElem? e) _ _ _ hf hb
theorem aa {R:World→World→Prop} {f:Value→World→Prop} {Fs:List (Value→World→Prop)} (h:iU R f) (k:∀f∈Fs,iU R f):∀x∈f :: Fs,iU R x:=by
 intro x hx;rcases List.mem_cons.1 hx with rfl | hx
 ·exact h
 ·exact k x hx
theorem bN (R:World→World→Prop):∀f∈([]:List (Value→World→Prop)),iU R f:=fun _ h=>by cases h
theorem Is.monoR (R:World→World→Prop) (v:Value):iU R (Is v):=fun _ _ _ h _=>h
def bD:Value→World→Prop:=fun _ _=>True
theorem bD.monoR (R:World→World→Prop):iU R bD:=fun _ _ _ _ _=>trivial
theorem Fb.monoR (B0:Nat) (T:TypeId) (k:Nat):iU (Rbx B0) (Fb B0 T k):=fun _ _ _ h hR=>by
 obtain ⟨g,C,e,hB,hb,hk⟩:=h;obtain ⟨C',h1,e1⟩:=hR.kp g C T hB hb;exact ⟨g,C',e,hB,h1,e1.trans hk⟩
def Jb (i j:Nat) (wd:World) (T:TypeId) (V:Array Value) (L:Nat→Bool) (w:World):Prop:=
 Jw i j (fun w=>Below wd.heap.size wd w∧NoB wd.heap.size T w) (fun w=>Below wd.heap.size wd w∧OneB wd.heap.size T w) (fun w=>Below wd.heap.size wd w∧AllB wd.heap.size T V w) L w
theorem Jb.congr {i j m:Nat} {wd:World} {T:TypeId} {V:Array Value} (hi:i<m) (hj:j<m):∀L L' w,(∀k,k<m→L k=L' k)→Jb i j wd T V L w→Jb i j wd T V L' w:=Jw.congr hi hj
theorem Jb.pure {i j k:Nat} {wd w:World} {T:TypeId} {V:Array Value} {L:Nat→Bool} (h:Jb i j wd T V L w) (hi:i≠k) (hj:j≠k):Jb i j wd T V (upd L k) w:=Jw.pure h hi hj
theorem Jb.start {i j:Nat} {wd:World} {T:TypeId} {V:Array Value}:Jb i j wd T V (fun _=>false) wd:=
 ⟨fun _ _=>⟨Below.refl _ _,fun g C hB hb=>by have:=hb.lt;omega⟩,fun h _=>(by cases h),fun h=>(by cases h)⟩
theorem Jb.bel {i j:Nat} {wd w:World} {T:TypeId} {V:Array Value} {L:Nat→Bool} (h:Jb i j wd T V L w):Below wd.heap.size wd w:=by
 cases hj:L j with
 | true=>exact (h.p2 hj).1
 | false=>
   cases hi:L i with
   | true=>exact (h.p1 hi hj).1
   | false=>exact (h.p0 hi hj).1
theorem Jb.alloc {i j k:Nat} {wd w:World} {T t:TypeId} {V C:Array Value} {L:Nat→Bool} (h:Jb i j wd T V L w) (hi:i≠k) (hj:j≠k) (ht:T≠t):Jb i j wd T V (upd L k) (w.alloc (.cells C t)):=by
 have hs:=h.bel.size;have old:∀g C',Blk (w.alloc (.cells C t)) g C' T→Blk w g C' T:=fun g C' hb=>by
  rcases eN hb with h1 | ⟨_,_,h3⟩
  ·exact h1
  ·exact absurd h3 ht
 refine ⟨?_,?_,?_⟩
 ·rw [aE _ hi,aE _ hj];intro h1 h2;obtain ⟨hb,hn⟩:=h.p0 h1 h2;exact ⟨hb.alloc hs _,fun g C' hB hx=>hn g C' hB (old g C' hx)⟩
 ·rw [aE _ hi,aE _ hj];intro h1 h2;obtain ⟨hb,hn⟩:=h.p1 h1 h2;exact ⟨hb.alloc hs _,fun g g' C1 C2 hB hB' hx hy=>hn g g' C1 C2 hB hB' (old _ _ hx) (old _ _ hy)⟩
 ·rw [aE _ hj];intro h1;obtain ⟨hb,hn⟩:=h.p2 h1;exact ⟨hb.alloc hs _,fun g C1 hB hx=>hn g C1 hB (old _ _ hx)⟩
theorem Jb.first {i j:Nat} {wd w:World} {T:TypeId} {V C:Array Value} {L:Nat→Bool} (h:Jb i j wd T V L w) (hij:j≠i) (hi:L i=false) (hj:L j=false):Jb i j wd T V (upd L i) (w.alloc (.cells C T)):=by
 obtain ⟨hb,hn⟩:=h.p0 hi hj;refine Jw.first hij hj ⟨hb.alloc hb.size _,fun g g' C1 C2 hB hB' hx hy=>?_⟩;rcases eN hx with h1 | ⟨h1,_,_⟩
 ·exact absurd h1 (hn g C1 hB)
 ·rcases eN hy with h2 | ⟨h2,_,_⟩
  ·exact absurd h2 (hn g' C2 hB')
  ·rw [h1,h2]
theorem Jb.second {i j g:Nat} {wd w w':World} {T:TypeId} {V C:Array Value} {L:Nat→Bool} (h:Jb i j wd T V L w) (hi:L i=true) (hj:L j=false) (hB:wd.heap.size≤g) (hb:Blk w g C T) (hV:Blk w' g V T) (hR:Rbx wd.heap.size w w') (hty:∀g' C1,Blk w' g' C1 T→∃C2,Blk w g' C2 T):Jb i j wd T V (upd L j) w':=by
 obtain ⟨hbe,hn⟩:=h.p1 hi hj;refine Jw.second ⟨hbe.trans hR.bel,fun g' C1 hB' hx=>?_⟩;obtain ⟨C2,h2⟩:=hty g' C1 hx;obtain rfl:=hn g g' C C2 hB hB' hb h2;exact (hx.same hV).1
theorem Jb.done {i j:Nat} {wd w:World} {T:TypeId} {V:Array Value} {L:Nat→Bool} (h:Jb i j wd T V L w) (hj:L j=true):Below wd.heap.size wd w∧AllB wd.heap.size T V w:=h.p2 hj
theorem ws {C:Array Value} (h:C.size=4):∃a b c d,C=#[a,b,c,d]:=by
 obtain ⟨l⟩:=C
 match l,h with
 | [a,b,c,d],_=>exact ⟨a,b,c,d,rfl⟩
theorem arr6 {C:Array Value} (h:C.size=6):∃a b c d e f,C=#[a,b,c,d,e,f]:=by
 obtain ⟨l⟩:=C
 match l,h with
 | [a,b,c,d,e,f],_=>exact ⟨a,b,c,d,e,f,rfl⟩
theorem Blk.all4 {w:World} {g:Nat} {t:TypeId} {c0 c1 c2 c3:Value} (h:Blk w g #[c0,c1,c2,c3] t) (v0 v1 v2 v3:Value):Blk ((((w.setCell ⟨g,0,none⟩ v0).setCell ⟨g,1,none⟩ v1).setCell ⟨g,2,none⟩ v2).setCell ⟨g,3,none⟩ v3) g #[v0,v1,v2,v3] t:=by
 have h0:Blk (w.setCell ⟨g,0,none⟩ v0) g #[v0,c1,c2,c3] t:=by have q:=h.set 0 v0;exact q
 have h1:Blk ((w.setCell ⟨g,0,none⟩ v0).setCell ⟨g,1,none⟩ v1) g #[v0,v1,c2,c3] t:=by have q:=h0.set 1 v1;exact q
 have h2:Blk (((w.setCell ⟨g,0,none⟩ v0).setCell ⟨g,1,none⟩ v1).setCell ⟨g,2,none⟩ v2) g #[v0,v1,v2,c3] t:=by have q:=h1.set 2 v2;exact q
 have q:=h2.set 3 v3;exact q
theorem Blk.all6 {w:World} {g:Nat} {t:TypeId} {c0 c1 c2 c3 c4 c5:Value} (h:Blk w g #[c0,c1,c2,c3,c4,c5] t) (v0 v1 v2 v3 v4 v5:Value):Blk ((((((w.setCell ⟨g,0,none⟩ v0).setCell ⟨g,1,none⟩ v1).setCell ⟨g,2,none⟩ v2).setCell ⟨g,3,none⟩ v3).setCell ⟨g,4,none⟩ v4).setCell ⟨g,5,none⟩ v5) g #[v0,v1,v2,v3,v4,v5] t:=by
 have h0:Blk (w.setCell ⟨g,0,none⟩ v0) g #[v0,c1,c2,c3,c4,c5] t:=by have q:=h.set 0 v0;exact q
 have h1:Blk ((w.setCell ⟨g,0,none⟩ v0).setCell ⟨g,1,none⟩ v1) g #[v0,v1,c2,c3,c4,c5] t:=by have q:=h0.set 1 v1;exact q
 have h2:Blk (((w.setCell ⟨g,0,none⟩ v0).setCell ⟨g,1,none⟩ v1).setCell ⟨g,2,none⟩ v2) g #[v0,v1,v2,c3,c4,c5] t:=by have q:=h1.set 2 v2;exact q
 have h3:Blk ((((w.setCell ⟨g,0,none⟩ v0).setCell ⟨g,1,none⟩ v1).setCell ⟨g,2,none⟩ v2).setCell ⟨g,3,none⟩ v3) g #[v0,v1,v2,v3,c4,c5] t:=by have q:=h2.set 3 v3;exact q
 have h4:Blk (((((w.setCell ⟨g,0,none⟩ v0).setCell ⟨g,1,none⟩ v1).setCell ⟨g,2,none⟩ v2).setCell ⟨g,3,none⟩ v3).setCell ⟨g,4,none⟩ v4) g #[v0,v1,v2,v3,v4,c5] t:=by have q:=h3.set 4 v4;exact q
 have q:=h4.set 5 v5;exact q
def go (P:Program) (ops:List Oper) (tg:Nat) (J:(Nat→Bool)→Value→World→Prop) (n:Nat) (x:List Value) (d:List Deferred) (dsts:List Nat) (R:World→World→Prop) (F:Nat→Value→World→Prop):Nat→List Oper→Prop
 | _,[]=>True
 | i,o :: l=>(∀(L:Nat→Bool) (y:Nat→Value) (w:World),J L (y tg) w→L i=false→(∀t,t ∉ dsts→y t=x.getD t undef)→(∀j,j∈cG o→L j=true∧(dsts.getD j 0<n→F j (y (dsts.getD j 0)) w))→
  (∀k q,ops[k]?=some q→L k=true→∀j,j∈cG q→L j=true)→(∀k,k<ops.length→L k=false→dsts.getD k 0<n→y (dsts.getD k 0)=x.getD (dsts.getD k 0) undef)→
  cf P o ⟨af n y,d⟩ w fun u w'=>R w w'∧(dsts.getD i 0<n→F i u w')∧J (upd L i) (if dsts.getD i 0=tg then u else y tg) w')∧go P ops tg J n x d dsts R F (i+1) l
theorem go.get {P:Program} {ops:List Oper} {tg:Nat} {J:(Nat→Bool)→Value→World→Prop} {n:Nat} {x:List Value} {d:List Deferred} {dsts:List Nat} {R:World→World→Prop} {F:Nat→Value→World→Prop} :
 ∀{l:List Oper} {k:Nat},go P ops tg J n x d dsts R F k l→∀i o,l[i]?=some o→
  ∀(L:Nat→Bool) (y:Nat→Value) (w:World),J L (y tg) w→L (k+i)=false→(∀t,t ∉ dsts→y t=x.getD t undef)→(∀j,j∈cG o→L j=true∧(dsts.getD j 0<n→F j (y (dsts.getD j 0)) w))→
   (∀k q,ops[k]?=some q→L k=true→∀j,j∈cG q→L j=true)→(∀k,k<ops.length→L k=false→dsts.getD k 0<n→y (dsts.getD k 0)=x.getD (dsts.getD k 0) undef)→
   cf P o ⟨af n y,d⟩ w fun u w'=>R w w'∧(dsts.getD (k+i) 0<n→F (k+i) u w')∧J (upd L (k+i)) (if dsts.getD (k+i) 0=tg then u else y tg) w'
 | [],_,_,_,_,h=>by simp at h
 | o :: l,k,hs,0,o',h=>by
   simp only [List.getElem?_cons_zero,Option.some.injEq] at h;subst h;exact hs.1
 | o :: l,k,hs,i+1,o',h=>by
   rw [List.getElem?_cons_succ] at h;have:=hs.2.get i o' h
   rwa [show k+1+i=k+(i+1) from by omega] at this
section
variable {P:Program} {Q:Exit→Act→World→Prop}
theorem uG {l:List Oper} {x:List Value} {d:List Deferred} (dsts:List Nat) (R:World→World→Prop) (F:Nat→Value→World→Prop) (tg:Nat) (J:(Nat→Bool)→Value→World→Prop)
 (hmono:∀i u w w',F i u w→R w w'→F i u w') (hJ:∀L L' u w,(∀i,i<l.length→L i=L' i)→J L u w→J L' u w)
 (hok:fV l dsts x.length=true) (hsteps:go P l tg J x.length x d dsts R F 0 l)
 (hend:∀(v:Nat→Value) (L:Nat→Bool) (w:World),(∀i,dsts.getD i 0=tg→J L (v i) w)→(∀i,i<l.length→L i=true)→(∀i,i<l.length→dsts.getD i 0<x.length→F i (v i) w)→Q .normal ⟨(aO v 0 dsts x).toArray,d⟩ w) :
 ∀(fuel:Nat) (listed:Array Bool) (y:Nat→Value) (w:World),left listed≤fuel→listed.size=l.length→(∀t,t ∉ dsts→y t=x.getD t undef)→
  (∀i,listed[i]?=some true→dsts.getD i 0<x.length→F i (y (dsts.getD i 0)) w)→J (fun i=>listed.getD i false) (y tg) w→
  (∀k q,l[k]?=some q→listed.getD k false=true→∀j,j∈cG q→listed.getD j false=true)→(∀k,k<l.length→listed.getD k false=false→dsts.getD k 0<x.length→y (dsts.getD k 0)=x.getD (dsts.getD k 0) undef)→wpAny P .any l.toArray Q fuel listed ⟨af x.length y,d⟩ w:=by
 simp only [fV,Bool.and_eq_true,decide_eq_true_eq,List.all_eq_true,List.mem_range] at hok;obtain ⟨⟨⟨hdl,hnd⟩,hfm⟩,hord⟩:=hok;have fin:∀(listed:Array Bool) (y:Nat→Value) (w:World),listed.size=l.length→(∀t,t ∉ dsts→y t=x.getD t undef)→
  (∀i,listed[i]?=some true→dsts.getD i 0<x.length→F i (y (dsts.getD i 0)) w)→J (fun i=>listed.getD i false) (y tg) w→(∀i,i<l.length→listed[i]?=some true)→Q .normal ⟨af x.length y,d⟩ w:=by
  intro listed y w hsz hy hF hb hall;have h:=hend (fun i=>y (dsts.getD i 0)) _ w (fun i e=>by rw [e];exact hb) (fun i hi=>by rw [Array.getD_eq_getD_getElem?,hall i hi];rfl) (fun i hi hn=>hF i (hall i hi) hn);have e:(aO (fun i=>y (dsts.getD i 0)) 0 dsts x).toArray=af x.length y:=by
   obtain ⟨h1,h2,h3⟩:=fJ (fun i=>y (dsts.getD i 0)) dsts 0 x hnd;apply Array.ext_getElem?
   intro t;rw [List.getElem?_toArray];by_cases ht:t<x.length
   ·rw [aS _ _ _ ht];by_cases hm:t∈dsts
    ·obtain ⟨j,hj,hjt⟩:=List.getElem_of_mem hm;have hj':dsts[j]?=some t:=by rw [gZg hj,hjt]
     have hjd:dsts.getD j 0=t:=by rw [gZe,hj'];rfl
     rw [h2 j t hj' ht,Nat.zero_add];simp only [hjd]
    ·rw [h3 t hm,hy t hm,gZe,gZg ht];rfl
   ·rw [List.getElem?_eq_none oZm,Array.getElem?_eq_none (by rw [aQ];omega)]
  rw [e] at h;exact h
 intro fuel;induction fuel with
 | zero=>
   intro listed y w hf hsz hy hF hb hcl hun;have hall:∀i,i<l.length→listed[i]?=some true:=fun i hi=>by
    have:=eX listed.toList (by unfold left at hf;omega) i (by rw [Array.length_toList,hsz];exact hi);simpa using this
   refine ⟨?_,fin listed y w hsz hy hF hb hall⟩;apply List.eq_nil_iff_forall_not_mem.2
   intro j hj;obtain ⟨h0,o,ho,_⟩:=mem_ready.1 hj;have hjl:j<l.length:=by
    have:=(Array.getElem?_eq_some_iff.1 ho).1;simpa using this
   rw [Array.getD_eq_getD_getElem?,hall j hjl] at h0;cases h0
 | succ fuel ih=>
   intro listed y w hf hsz hy hF hb hcl hun;refine ⟨fun hr=>?_,fun i hi=>?_⟩
   ·refine fin listed y w hsz hy hF hb ?_;intro i;induction i using Nat.strongRecOn with
    | ind i ihi=>
      intro hi;cases hli:listed[i]? with
      | none=>rw [Array.getElem?_eq_none_iff] at hli;omega
      | some b=>
        cases b with
        | true=>rfl
        | false=>
          exfalso
          have:i∈Region.ready .any l.toArray listed:=by
           refine mem_ready.2 ⟨by rw [Array.getD_eq_getD_getElem?,hli];rfl,l[i],by rw [List.getElem?_toArray,gZg hi],fun e he hbe=>?_⟩;have h1:=hord i hi;rw [gZg hi] at h1;have h2:=List.all_eq_true.1 h1 e (by simpa using he);rw [hbe] at h2;have h3:e.on<i:=by simpa using h2
           rw [Array.getD_eq_getD_getElem?,ihi e.on h3 (by omega)];rfl
          rw [hr] at this;cases this
   ·obtain ⟨h0,o,ho,hall⟩:=mem_ready.1 hi;have ho':l[i]?=some o:=by simpa using ho
    have hil:i<l.length:=(List.getElem?_eq_some_iff.1 ho').1;have hli:listed[i]?=some false:=by
     cases hli:listed[i]? with
     | none=>rw [Array.getElem?_eq_none_iff] at hli;omega
     | some b=>rw [Array.getD_eq_getD_getElem?,hli] at h0;rw [show b=false from h0]
    have hst:=hsteps.get i o ho' (fun i=>listed.getD i false) y w hb (by rw [Nat.zero_add];show listed.getD i false=false;rw [Array.getD_eq_getD_getElem?,hli];rfl) hy (fun j hj=>by
     unfold cG at hj;obtain ⟨e,he,rfl⟩:=List.mem_map.1 hj;obtain ⟨he1,he2⟩:=List.mem_filter.1 he;have hl:=hall e (by simpa using he1) he2;refine ⟨hl,hF e.on ?_⟩;cases hle:listed[e.on]? with
     | none=>rw [Array.getD_eq_getD_getElem?,hle] at hl;cases hl
     | some b=>rw [Array.getD_eq_getD_getElem?,hle] at hl;rw [show b=true from hl]) hcl hun
    rw [Nat.zero_add] at hst;obtain ⟨t,ht⟩:∃t,dsts[i]?=some t:=⟨dsts[i]'(by omega),gZg oZm⟩
    have htd:dsts.getD i 0=t:=by rw [gZe,ht];rfl
    have hfi:=hfm i hil;rw [ho',ht] at hfi;simp only [Bool.and_eq_true,Bool.or_eq_true,decide_eq_true_eq] at hfi;obtain ⟨hgd,hfi⟩:=hfi;have after:∀u w',(R w w'∧(dsts.getD i 0<x.length→F i u w')∧J (upd (fun i=>listed.getD i false) i) (if dsts.getD i 0=tg then u else y tg) w')→wpAny P .any l.toArray Q fuel (listed.setIfInBounds i true) (Act.put ⟨af x.length y,d⟩ o.dst u) w':=by
     rintro u w' ⟨hR,hu,hJw⟩;rw [htd] at hu;have ea:(Act.put ⟨af x.length y,d⟩ o.dst u)=⟨af x.length (fun s=>if s=t then u else y s),d⟩:=by
      rcases hfi with ⟨h1,h2⟩ | ⟨h1,h2⟩
      ·rw [h1];simp only [Act.put,eD]
      ·have:o.dst=none:=by simpa using h1
       rw [this];simp only [Act.put]
       congr 1
       apply Array.ext_getElem?
       intro s;by_cases hs:s<x.length
       ·rw [aS _ _ _ hs,aS _ _ _ hs,if_neg (by omega)]
       ·rw [Array.getElem?_eq_none (by rw [aQ];omega),Array.getElem?_eq_none (by rw [aQ];omega)]
     rw [ea];have hlf:=fW listed.toList i (by simpa using hli);have hup:∀j,(listed.setIfInBounds i true).getD j false=if j=i then true else listed.getD j false:=by
      intro j;by_cases hji:j=i
      ·subst hji;rw [if_pos rfl,Array.getD_eq_getD_getElem?,Array.getElem?_setIfInBounds_self_of_lt (by omega)];rfl
      ·rw [if_neg hji,Array.getD_eq_getD_getElem?,Array.getD_eq_getD_getElem?,Array.getElem?_setIfInBounds_ne (Ne.symm hji)]
     refine ih _ _ _ ?_ (by rw [Array.size_setIfInBounds,hsz]) ?_ ?_ (hJ _ _ _ _ ?_ (by rw [htd] at hJw;show J _ (if tg=t then u else y tg) w';by_cases e:t=tg;rw [if_pos e] at hJw;rw [if_pos e.symm];exact hJw;rw [if_neg e] at hJw;rw [if_neg (Ne.symm e)];exact hJw)) ?_ ?_
     ·unfold left at hf⊢;rw [Array.toList_setIfInBounds];omega
     ·intro s hs;have hst:s≠t:=fun e=>hs (e▸List.mem_of_getElem? ht);simp only [hst,if_false];exact hy s hs
     ·intro j hj hjt;by_cases hji:j=i
      ·subst hji;rw [htd] at hjt⊢;simpa using hu hjt
      ·rw [Array.getElem?_setIfInBounds_ne (Ne.symm hji)] at hj;have hjl:j<dsts.length:=by
        have:=(Array.getElem?_eq_some_iff.1 hj).1;omega
       have hne:dsts.getD j 0≠t:=by
        rw [gZe,gZg hjl];intro e;have hit:dsts[i]'(by omega)=t:=(List.getElem?_eq_some_iff.1 ht).2;have:=dK hnd j i hjl oZm (show dsts[j]=dsts[i]'(by omega) from by rw [hit];simpa using e);exact hji this
       simp only [hne,if_false];exact hmono _ _ _ _ (hF j hj hjt) hR
     ·intro j hj;by_cases hji:j=i
      ·subst hji;rw [cZ,Array.getD_eq_getD_getElem?,Array.getElem?_setIfInBounds_self_of_lt (by omega)];rfl
      ·rw [aE _ hji,Array.getD_eq_getD_getElem?,Array.getD_eq_getD_getElem?,Array.getElem?_setIfInBounds_ne (Ne.symm hji)]
     ·intro k q hk hLk j hj;rw [hup] at hLk⊢;by_cases hji:j=i
      ·rw [if_pos hji]
      ·rw [if_neg hji];by_cases hki:k=i
       ·subst hki;rw [ho'] at hk;injection hk with hk;subst hk;unfold cG at hj;obtain ⟨e,he,rfl⟩:=List.mem_map.1 hj;obtain ⟨he1,he2⟩:=List.mem_filter.1 he;have hl:=hall e (by simpa using he1) he2;cases hle:listed[e.on]? with
        | none=>rw [Array.getD_eq_getD_getElem?,hle] at hl;cases hl
        | some b=>rw [Array.getD_eq_getD_getElem?,hle] at hl⊢;exact hl
       ·rw [if_neg hki] at hLk;exact hcl k q hk hLk j hj
     ·intro k hk hLk hkn;rw [hup] at hLk;by_cases hki:k=i
      ·rw [if_pos hki] at hLk;cases hLk
      ·rw [if_neg hki] at hLk;have hne:dsts.getD k 0≠t:=by
        rw [gZe,gZg (by omega)];intro e;have hit:dsts[i]'(by omega)=t:=(List.getElem?_eq_some_iff.1 ht).2;have:=dK hnd k i oZm oZm (show dsts[k]'(by omega)=dsts[i]'(by omega) from by rw [hit];simpa using e);exact hki this
       simp only [hne,if_false];exact hun k hk hLk hkn
    unfold wpOp;rw [ho];simp only
    have hw:Region.wanted o (yielded l.toArray (af x.length y))=true:=by
     have:o.guard=none:=by simpa using hgd
     unfold Region.wanted;rw [this]
    rw [if_pos hw];exact .inl (hst _ _ after)
theorem jR {id:Nat} {l:List Oper} {x:List Value} {d:List Deferred} {w:World} (hm:P.follows .mixedOrders=true) (n:Nat) (hn:x.length=n) (dsts:List Nat) (R:World→World→Prop) (F:Nat→Value→World→Prop) (tg:Nat) (J:(Nat→Bool)→Value→World→Prop)
 (hmono:∀i u w w',F i u w→R w w'→F i u w') (hJ:∀L L' u w,(∀i,i<l.length→L i=L' i)→J L u w→J L' u w)
 (hok:fV l dsts n=true) (hst:J (fun _=>false) (x.getD tg undef) w.drew) (hsteps:go P l tg J n x d dsts R F 0 l)
 (hend:∀(v:Nat→Value) (L:Nat→Bool) (w':World),(∀i,dsts.getD i 0=tg→J L (v i) w')→(∀i,i<l.length→L i=true)→(∀i,i<l.length→dsts.getD i 0<n→F i (v i) w')→Q .normal ⟨(aO v 0 dsts x).toArray,d⟩ w') :
 (Code.region id l.toArray true).wp P Q ⟨x.toArray,d⟩ w:=by
 subst hn;refine wp_region_any hm ?_;change wpAny P .any l.toArray Q _ _ _ w.drew;rw [ap x];have hl:∀n,((List.replicate n false).filter (!·)).length=n:=fun n=>by induction n with
  | zero=>rfl
  | succ n ih=>rw [List.replicate_succ];simp
 refine uG dsts R F tg J hmono hJ hok hsteps hend _ _ _ _ ?_ (by simp) (fun t ht=>rfl) ?_ (hJ _ _ _ _ ?_ hst) (fun k q hk hLk=>?_) (fun k hk _ _=>rfl)
 ·unfold left;rw [Array.toList_replicate,hl];exact lZr _
 ·intro i hi;rw [Array.getElem?_replicate] at hi;split at hi<;>cases hi
 ·intro i hi;rw [Array.getD_eq_getD_getElem?,Array.getElem?_replicate];split<;>rfl
 ·rw [Array.getD_eq_getD_getElem?,Array.getElem?_replicate] at hLk;split at hLk<;>cases hLk
end
def Jy (i j:Nat) (wd:World) (T:TypeId) (V:Array Value) (L:Nat→Bool) (u:Value) (w:World):Prop:=
 Below wd.heap.size wd w∧(L i=true→∃g C,u=.pointer (some ⟨g,0,none⟩)∧wd.heap.size≤g∧Blk w g C T∧C.size=V.size∧(L j=true→C=V))
theorem Jy.congr {i j m:Nat} {wd:World} {T:TypeId} {V:Array Value} (hi:i<m) (hj:j<m):∀L L' u w,(∀k,k<m→L k=L' k)→Jy i j wd T V L u w→Jy i j wd T V L' u w:=by
 intro L L' u w h hJ;unfold Jy at *;rw [←h i hi,←h j hj];exact hJ
theorem Jy.pure {i j k:Nat} {wd w:World} {T:TypeId} {V:Array Value} {L:Nat→Bool} {u:Value} (h:Jy i j wd T V L u w) (hi:i≠k) (hj:j≠k):Jy i j wd T V (upd L k) u w:=by
 unfold Jy at *;rw [aE _ hi,aE _ hj];exact h
theorem Jy.start {i j:Nat} {wd:World} {T:TypeId} {V:Array Value} {u:Value}:Jy i j wd T V (fun _=>false) u wd:=⟨Below.refl _ _,fun h=>by cases h⟩
theorem Jy.call {i j k:Nat} {wd w w':World} {T:TypeId} {V:Array Value} {L:Nat→Bool} {u:Value} (h:Jy i j wd T V L u w) (hi:i≠k) (hj:j≠k) (hb:Below w.heap.size w w'):Jy i j wd T V (upd L k) u w':=by
 unfold Jy at *;rw [aE _ hi,aE _ hj];refine ⟨h.1.trans (hb.mono h.1.size),fun hL=>?_⟩;obtain ⟨g,C,e,hg,hbk,hs,hc⟩:=h.2 hL;exact ⟨g,C,e,hg,hbk.later hb,hs,hc⟩
theorem Jy.first {i j:Nat} {wd w:World} {T:TypeId} {V C:Array Value} {L:Nat→Bool} {u:Value} (h:Jy i j wd T V L u w) (hij:j≠i) (hj:L j=false) (hs:C.size=V.size):Jy i j wd T V (upd L i) (.pointer (some ⟨w.heap.size,0,none⟩)) (w.alloc (.cells C T)):=by
 refine ⟨h.1.alloc h.1.size _,fun _=>⟨_,C,rfl,h.1.size,Blk.new _ _ _,hs,fun e=>?_⟩⟩;rw [aE _ hij,hj] at e;cases e
theorem Jy.at {i j:Nat} {wd w:World} {T:TypeId} {V:Array Value} {L:Nat→Bool} {u:Value} (h:Jy i j wd T V L u w) (hi:L i=true):∃g C,u=.pointer (some ⟨g,0,none⟩)∧wd.heap.size≤g∧Blk w g C T∧C.size=V.size:=by
 obtain ⟨g,C,e,hg,hb,hs,_⟩:=h.2 hi;exact ⟨g,C,e,hg,hb,hs⟩
theorem Jy.second {i j g:Nat} {wd w w':World} {T:TypeId} {V:Array Value} {L:Nat→Bool} {u:Value} (h:Jy i j wd T V L u w) (hu:u=.pointer (some ⟨g,0,none⟩)) (hg:wd.heap.size≤g) (hV:Blk w' g V T) (hb:Below wd.heap.size w w'):Jy i j wd T V (upd L j) u w':=
 ⟨h.1.trans hb,fun _=>⟨g,V,hu,hg,hV,rfl,fun _=>rfl⟩⟩
theorem Jy.done {i j:Nat} {wd w:World} {T:TypeId} {V:Array Value} {L:Nat→Bool} {u:Value} (h:Jy i j wd T V L u w) (hi:L i=true) (hj:L j=true):∃g,u=.pointer (some ⟨g,0,none⟩)∧wd.heap.size≤g∧Blk w g V T∧Below wd.heap.size wd w:=by
 obtain ⟨g,C,e,hg,hb,_,hc⟩:=h.2 hi;obtain rfl:=hc hj;exact ⟨g,e,hg,hb,h.1⟩
end Go.Proofs.YtclgbdfkdbbinaaGreat
