/-
  What is proved here: words and contracts, a part of those that the statement rests on (C9).
  Conditions: none but that the arguments are values of their types.
-/
import Derived.Test.YtclgbdfkdbbinaaGreatC6
import Derived.Test.YtclgbdfkdbbinaaGreatC2
import Derived.Test.YtclgbdfkdbbinaaGreatC8
import Derived.Test.YtclgbdfkdbbinaaGreatC5
import Derived.Test.YtclgbdfkdbbinaaGreatC1
import Derived.Deep.Cut
import Derived.Deep.DeepCutAuto
import Derived.BigQuiet
import Derived.Deep.QuietTactic
set_option linter.unusedVariables false
set_option linter.unusedSimpArgs false
set_option maxRecDepth 100000
set_option maxHeartbeats 12800000
namespace Go.Proofs.YtclgbdfkdbbinaaGreat
open Go.RowKit
theorem kindOf_any (wh:Int) (w:World):Calls Tryz.prog 156 #[.int .i64 wh] w fun r w'=>r=.returned (.int .i64 (kindN wh))∧w=w':=by
 unfold kindN;by_cases h1:wh=1
 ·subst h1;go_enter Tryz.func156,Tryz.ntmps156
  go_wp2;go_ret;exact ⟨rfl,rfl⟩
 ·have h1b:(wh==1)=false:=by simpa using h1
  by_cases h2:wh=2
  ·subst h2;go_enter Tryz.func156,Tryz.ntmps156
   go_wp2;go_ret;exact ⟨rfl,rfl⟩
  ·have h2b:(wh==2)=false:=by simpa using h2
   by_cases h3:wh=3
   ·subst h3;go_enter Tryz.func156,Tryz.ntmps156
    go_wp2;go_ret;exact ⟨rfl,rfl⟩
   ·have h3b:(wh==3)=false:=by simpa using h3
    rw [if_neg h1,if_neg h2,if_neg h3];clear h1 h2 h3;go_enter Tryz.func156,Tryz.ntmps156
    go_wp2;go_ret;exact ⟨rfl,rfl⟩
theorem addr9_any (x:Bu) (wh of:Int) (w:World) (hx:x.Ok) (o0:0≤of) (o1:of≤18446744073709551615) :
 Calls Tryz.prog 127 #[x.val,.int .i64 wh,.int .u64 of] w fun r w'=>r=.returned (.int .u64 (addrN x.i wh of))∧w'=w.alloc (.cells x.cells 84):=by
 obtain ⟨⟨k,so,⟨nda,ndn,ndc⟩,en,⟨coa,con,coc⟩,⟨daa,dan,dac⟩,bz,⟨tla,tln,tlc⟩,tz,⟨dfa,dfn,dfc⟩,⟨fxa,fxn,fxc⟩⟩,⟨tba,tbn,tbc⟩,⟨pda,pdn,pdc⟩,⟨pna,pnn,pnc⟩,⟨v0,v1,v2,v3,v4,v5,v6,dy,fr,cp,dp,tp⟩⟩:=x;clear hx;unfold Bu.val Bu.cells addrN;simp only
 by_cases h1:wh=1
 ·subst h1;go_enter Tryz.func127,Tryz.ntmps127
  go_wp2;go_ret;exact ⟨rfl,rfl⟩
 ·have h1b:(wh==1)=false:=by simpa using h1
  by_cases h2:wh=2
  ·subst h2;go_enter Tryz.func127,Tryz.ntmps127
   go_wp2;go_ret;exact ⟨rfl,rfl⟩
  ·have h2b:(wh==2)=false:=by simpa using h2
   by_cases h3:wh=3
   ·subst h3;go_enter Tryz.func127,Tryz.ntmps127
    go_wp2;go_ret;exact ⟨rfl,rfl⟩
   ·have h3b:(wh==3)=false:=by simpa using h3
    rw [if_neg h1,if_neg h2,if_neg h3];clear h1 h2 h3;go_enter Tryz.func127,Tryz.ntmps127
    go_wp2;go_ret;exact ⟨rfl,rfl⟩
theorem info9_any (d:Df) (w:World) :
 Calls Tryz.prog 126 #[d.val] w fun r w'=>r=.returned (.int .u8 (infoN d))∧w'=w.alloc (.cells d.cells 61):=by
 obtain ⟨nm,wh,of,wk⟩:=d;have HK:=Lib.hid (fun w1=>kindOf_any wh w1);have hk:0≤kindN wh∧kindN wh≤6:=by unfold kindN;repeat' split<;>omega
 unfold Df.val Df.cells infoN;simp only
 generalize kindN wh=q at HK hk;cases wk with
 | true=>
   have HW:Hid (IntKind.u8.wrap (32+q)=32+q):=Lib.hid (by rw [IntKind.wrap_u8];omega);rw [if_pos rfl];go_enter Tryz.func126,Tryz.ntmps126
   go_wp2_with fail;refine (HK.out _).mono ?_;rintro r w2 ⟨rfl,rfl⟩;go_wp2;go_ret;exact ⟨by first | rfl | rw [HW.out],rfl⟩
 | false=>
   have HW:Hid (IntKind.u8.wrap (16+q)=16+q):=Lib.hid (by rw [IntKind.wrap_u8];omega);rw [if_neg (by decide)];go_enter Tryz.func126,Tryz.ntmps126
   go_wp2_with fail;refine (HK.out _).mono ?_;rintro r w2 ⟨rfl,rfl⟩;go_wp2;go_ret;exact ⟨by first | rfl | rw [HW.out],rfl⟩
theorem p2_e9:IsP2 8∧IsP2 256:=⟨⟨3,by decide,by decide⟩,⟨8,by decide,by decide⟩⟩
theorem up9_any (x n:Int) (w:World) (x0:0≤x) (x1:x≤1152921504606846976) (hn:n=8∨n=256) :
 Calls Tryz.prog 69 #[.int .u64 x,.int .u64 n] w fun r w'=>r=.returned (.int .u64 (upI x n))∧w=w':=by
 have HU:Hid (∀w1,Calls Tryz.prog 124 #[.int .u64 x,.int .u64 n] w1 fun r w'=>r=.returned (.tuple #[.int .u64 (upI x n),.int .i64 0])∧w1=w'):=Lib.hid (fun w1=>by
  have hp:IsP2 n:=by rcases hn with rfl | rfl;exact p2_e9.1;exact p2_e9.2
  by_cases h:x / n*n=x
  ·have e:upI x n=x:=by unfold upI;rcases hn with rfl | rfl<;>omega
   rw [e];exact up_same x n w1 x0 (by omega) hp h
  ·have e:upI x n=x / n*n+n:=by unfold upI;rcases hn with rfl | rfl<;>omega
   rw [e];exact up_next x n w1 x0 (by omega) hp h (by rcases hn with rfl | rfl<;>omega))
 clear hn;generalize upI x n=q at HU;go_enter Tryz.func69,Tryz.ntmps69
 go_wp2_with fail;refine (HU.out _).mono ?_;rintro r w2 ⟨rfl,rfl⟩;go_wp2;go_ret;exact ⟨rfl,rfl⟩
theorem end9_any (x:Bu) (w:World) (hx:x.Ok) :
 Calls Tryz.prog 32 #[x.val] w fun r w'=>r=.returned (.int .u64 (endN x))∧Below w.heap.size w w':=by
 have hc:=hx.co.i;have hd:=hx.da.i;have ht:=hx.tl.i;obtain ⟨⟨k,so,⟨nda,ndn,ndc⟩,en,⟨coa,con,coc⟩,⟨daa,dan,dac⟩,bz,⟨tla,tln,tlc⟩,tz,⟨dfa,dfn,dfc⟩,⟨fxa,fxn,fxc⟩⟩,⟨tba,tbn,tbc⟩,⟨pda,pdn,pdc⟩,⟨pna,pnn,pnc⟩,⟨v0,v1,v2,v3,v4,v5,v6,dy,fr,cp,dp,tp⟩⟩:=x;have HB:Hid (Below w.heap.size w (w.alloc (.cells #[.int .i64 k,.string so,.slice nda ndn ndc,.int .u64 en,.slice coa con coc,.slice daa dan dac,.int .u64 bz,.slice tla tln tlc,.int .u64 tz,.slice dfa dfn dfc,.slice fxa fxn fxc,.slice tba tbn tbc,.slice pda pdn pdc,.slice pna pnn pnc,.int .u64 v0,.int .u64 v1,.int .u64 v2,.int .u64 v3,.int .u64 v4,.int .u64 v5,.int .u64 v6,.int .u64 dy,.int .u64 fr,.int .u64 cp,.int .u64 dp,.int .u64 tp] 84))):=Lib.hid ((Below.refl _ _).alloc (Nat.le_refl _) _);clear hx;unfold Bu.val endN;simp only at hc hd ht⊢;by_cases h1:0<tln
 ·rw [if_pos h1];have h1i:(0:Int)<tln:=by omega
  clear h1;go_enter Tryz.func32,Tryz.ntmps32
  go_wp2;go_ret;exact ⟨rfl,HB.out⟩
 ·rw [if_neg h1];have h1i:¬(0:Int)<tln:=by omega
  clear h1;by_cases h2:0<dan
  ·rw [if_pos h2];have h2i:(0:Int)<dan:=by omega
   clear h2;go_enter Tryz.func32,Tryz.ntmps32
   go_wp2;go_ret;exact ⟨rfl,HB.out⟩
  ·rw [if_neg h2];have h2i:¬(0:Int)<dan:=by omega
   clear h2;by_cases h3:0<con
   ·rw [if_pos h3];have h3i:(0:Int)<con:=by omega
    clear h3;go_enter Tryz.func32,Tryz.ntmps32
    go_wp2;go_ret;exact ⟨rfl,HB.out⟩
   ·rw [if_neg h3];have h3i:¬(0:Int)<con:=by omega
    clear h3;go_enter Tryz.func32,Tryz.ntmps32
    go_wp2;go_ret;exact ⟨rfl,HB.out⟩
theorem seg9_any (ty fl at' size bz:Int) (w:World) (s0:u64B size) (b0:u64B bz) :
 Calls Tryz.prog 122 #[.int .u32 ty,.int .u32 fl,.int .u64 at',.int .u64 size,.int .u64 bz] w fun r w'=>r=.returned (segN ty fl at' size bz).val∧Below w.heap.size w w':=by
 unfold segN Sg.val;obtain ⟨me,hme⟩:∃me,IntKind.u64.wrap (size+bz)=me:=⟨_,rfl⟩
 simp only
 rw [hme];by_cases h1:ty=1
 ·subst h1;rw [if_pos rfl];have HB:Hid (∀o1 o2,Below w.heap.size w ((w.alloc o1).alloc o2)):=Lib.hid (fun o1 o2=>((Below.refl _ _).alloc (Nat.le_refl _) o1).alloc (by simp) o2);obtain ⟨z0,z1,z2,z3,z4,z5,z6⟩:=Blk.c7 ((Blk.new w #[.int .u32 1,.int .u32 fl,.int .u64 at',.int .u64 at',.int .u64 size,.int .u64 me,.int .u64 256] 65).alloc (.cells #[.int .u32 1,.int .u32 fl,.int .u64 at',.int .u64 at',.int .u64 size,.int .u64 me,.int .u64 256] 65));go_enter Tryz.func122,Tryz.ntmps122
  go_wp2;refine bodyPost_ret (v:=.agg #[.int .u32 1,.int .u32 fl,.int .u64 at',.int .u64 at',.int .u64 size,.int .u64 me,.int .u64 256]) (by simp [results,Tryz.results122,go_sem,z0,z1,z2,z3,z4,z5,z6]) rfl ?_;exact ⟨rfl,HB.out _ _⟩
 ·have h1b:(ty==1)=false:=by simpa using h1
  rw [if_neg h1];clear h1;have HB:Hid (∀o1 o2,Below w.heap.size w ((w.alloc o1).alloc o2)):=Lib.hid (fun o1 o2=>((Below.refl _ _).alloc (Nat.le_refl _) o1).alloc (by simp) o2);obtain ⟨z0,z1,z2,z3,z4,z5,z6⟩:=Blk.c7 ((Blk.new w #[.int .u32 ty,.int .u32 fl,.int .u64 at',.int .u64 at',.int .u64 size,.int .u64 me,.int .u64 8] 65).alloc (.cells #[.int .u32 ty,.int .u32 fl,.int .u64 at',.int .u64 at',.int .u64 size,.int .u64 me,.int .u64 8] 65));go_enter Tryz.func122,Tryz.ntmps122
  go_wp2;refine bodyPost_ret (v:=.agg #[.int .u32 ty,.int .u32 fl,.int .u64 at',.int .u64 at',.int .u64 size,.int .u64 me,.int .u64 8]) (by simp [results,Tryz.results122,go_sem,z0,z1,z2,z3,z4,z5,z6]) rfl ?_;exact ⟨rfl,HB.out _ _⟩
theorem splice_u8 (F ps:List Int) (p:Nat):splice (F.map (Value.int .u8)) p (ps.map (Value.int .u8))=(splice F p ps).map (Value.int .u8):=by
 unfold splice;simp [List.map_take,List.map_drop]
theorem info_u8s:(Tryz.prog.info? 5).map (·.size)=some 1:=by kernel_rfl
theorem lay9_ok (g n p pn pc:Nat) (pa:Option Addr) (F ps:List Int) (w:World) (hg:Blk w g (F.map (Value.int .u8)).toArray 5) (hn:F.length=n) (hp:Bys w w.heap.size pa pn ps) (hc:pn≤pc) (hcm:(pc:Int)≤9223372036854775807) (hfit:pn=0∨p+pn≤n) (hl:n≤1000000) (hpl:p≤1152921504606846976) :
 Calls Tryz.prog 70 #[.slice (some ⟨g,0,none⟩) n n,.int .u64 p,.slice pa pn pc] w fun r w'=>(r=.returned (.tuple #[]))∧w'=w.setRow g ((splice F p ps).map (Value.int .u8)).toArray:=by
 have HG:Hid (w.heap[g]?=some (.cells (F.map (Value.int .u8)).toArray 5 (0,0))):=Lib.hid hg;have HP:=Lib.hid hp;have HN:=Lib.hid hn;have hni:(n:Int)≤1000000:=by omega
 clear hg hp hn;by_cases h0:pn=0
 ·have hps:ps=[]:=List.eq_nil_of_length_eq_zero (by rw [HP.out.1];exact h0);subst hps;have hF:Hid (splice F p []=F):=Lib.hid (by unfold splice;simp);have h0i:(pn:Int)=0:=by omega
  clear hfit;subst h0;go_enter Tryz.func70,Tryz.ntmps70
  go_wp2;first | go_ret | go_ret2 | go_end0
  exact ⟨rfl,by rw [hF.out];exact (setRow_self w g _ _ _ HG.out).symm⟩
 ·have hfit2:p+pn≤n:=by omega
  have h0i:(0:Int)<pn:=by omega
  have hpp:0<pn:=by omega
  have hpn:(p:Int)≤n:=by omega
  have hpn2:p<n:=by omega
  have hpn3:¬p=n:=by omega
  have HPA:Hid (∃b off,pa=some ⟨b,off,none⟩∧b<w.heap.size∧∀i,i<pn→w.cell? ⟨b,off+i,none⟩=some (.int .u8 (ps.getD i 0))):=Lib.hid (HP.out.2.2 (by omega));obtain ⟨b,off,rfl,hbB,hbc⟩:=HPA.out;have HBC:=Lib.hid hbc;clear hfit h0 hbc;go_enter Tryz.func70,Tryz.ntmps70
  have HSRC:=Lib.hid (Bys.src (w:=w) (b:=b) (off:=off) HP.out.1 HBC.out);have HPL:=Lib.hid HP.out.1;have HUB:=Lib.hid (one_u8 ps);go_wp2_with (with_reducible refine wpList_copy_own rfl _ _ 22 22 rfl 5 Tryz.underlying22 info_u8s g p _ _ ⟨b,off,none⟩ _ _ rfl rfl (F.map (Value.int .u8)).toArray 5 HG.out (ps.map (Value.int .u8)) ?d1 HSRC.out ?d3 ?d4 ?_);case d1=>rw [List.length_map,HPL.out];exact (Nat.min_eq_left (by omega)).symm
  case d3=>rw [List.length_map,List.size_toArray,List.length_map,HPL.out,HN.out];exact hfit2
  case d4=>exact HUB.out
  first | go_ret | go_ret2 | go_end0 | (go_wp2;first | go_ret | go_ret2 | go_end0)
  exact ⟨rfl,by rw [←splice_u8];unfold splice;rw [List.length_map]⟩
structure SegSt (w wx:World) (C:Array Value) (l:Value) (L:List Sg):Prop where
 own:wx.ownsRow (w.heap.size+1) 65 7 l L.length (flatS L)
 box:Blk wx w.heap.size C 84
 bel:Below w.heap.size w wx
theorem SegSt.later {w wx w':World} {C:Array Value} {l:Value} {L:List Sg} (h:SegSt w wx C l L) (hb:Below wx.heap.size wx w'):SegSt w w' C l L:=
 ⟨own7_below h.own hb,h.box.later hb,h.bel.trans (hb.mono h.bel.size)⟩
theorem SegSt.alloc {w wx:World} {C:Array Value} {l:Value} {L:List Sg} (h:SegSt w wx C l L) (o:Obj):SegSt w (wx.alloc o) C l L:=h.later ((Below.refl _ _).alloc (Nat.le_refl _) o)
theorem SegSt.app {w wx w':World} {C:Array Value} {l l':Value} {L:List Sg} {s:Sg} {o:Obj} (h:SegSt w wx C l L) (ho:w'.ownsRow (w.heap.size+1) 65 7 l' (L.length+1) (flatS L++[.int .u32 s.ty,.int .u32 s.fl,.int .u64 s.ot,.int .u64 s.va,.int .u64 s.fi,.int .u64 s.me,.int .u64 s.al])) (hg:(wx.alloc o).grownBy w' l.ownBlock):SegSt w w' C l' (L++[s]):=by
 refine ⟨by rw [List.length_append,flatS_snoc];exact ho,((h.box.alloc o).grown hg (fun e=>?_)),(h.bel.alloc h.bel.size o).grown hg (by have:=h.bel.size;simp;omega) (fun q e=>?_)⟩
 ·have:=(h.own.lt _ e.symm).1;omega
 ·have:=(h.own.lt q e).1;omega
theorem segs9_any (x:Bu) (w:World) (hx:x.Ok) :
 Calls Tryz.prog 67 #[x.val] w fun r w'=>(∃u,r=.returned u∧w'.ownsRow w.heap.size 65 7 u (segsN x).length (flatS (segsN x)))∧Below w.heap.size w w':=by
 obtain ⟨i0,hI,hz0,hz1,hz2⟩:=info_parts info_seg;have HI:=Lib.hid hI;have HZ0:=Lib.hid hz0;have HZ1:=Lib.hid hz1;have HZ2:=Lib.hid hz2;clear hI hz0 hz1 hz2;have hc:=hx.co.i;have hd:=hx.da.i;have ht:=hx.tl.i;have hbz:=hx.bs;have htz:=hx.tz;have ufr:=hx.i.fr;obtain ⟨LL,hLL⟩:∃LL,segsN x=LL:=⟨_,rfl⟩
 rw [hLL];unfold segsN at hLL;obtain ⟨⟨k,so,⟨nda,ndn,ndc⟩,en,⟨coa,con,coc⟩,⟨daa,dan,dac⟩,bz,⟨tla,tln,tlc⟩,tz,⟨dfa,dfn,dfc⟩,⟨fxa,fxn,fxc⟩⟩,⟨tba,tbn,tbc⟩,⟨pda,pdn,pdc⟩,⟨pna,pnn,pnc⟩,⟨v0,v1,v2,v3,v4,v5,v6,dy,fr,cp,dp,tp⟩⟩:=x;clear hx;unfold Bu.val;simp only at hc hd ht hbz htz ufr hLL⊢;have ucon:u64B (con:Int):=⟨by omega,by omega⟩
 have utln:u64B (tln:Int):=⟨by omega,by omega⟩
 have udan:u64B (dan:Int):=⟨by omega,by omega⟩
 obtain ⟨q,hq⟩:∃q,IntKind.u64.wrap (v1-dy)=q:=⟨_,rfl⟩
 have uq:u64B q:=by rw [←hq];exact u64_bd _
 have HQQ:=Lib.hid hq;obtain ⟨dt,hdt⟩:∃dt,datN dan tln ⟨v0,v1,v2,v3,v4,v5,v6,dy,fr,cp,dp,tp⟩=dt:=⟨_,rfl⟩
 have udt:u64B dt:=by rw [←hdt];unfold datN;split;exact u64_bd _;exact udan
 have HDT:=Lib.hid hdt;obtain ⟨L1,hL1⟩:∃L1,segs1 con ⟨v0,v1,v2,v3,v4,v5,v6,dy,fr,cp,dp,tp⟩=L1:=⟨_,rfl⟩
 obtain ⟨L2,hL2⟩:∃L2,segs2 dan tln bz ⟨v0,v1,v2,v3,v4,v5,v6,dy,fr,cp,dp,tp⟩=L2:=⟨_,rfl⟩
 obtain ⟨L3,hL3⟩:∃L3,segs3 ⟨v0,v1,v2,v3,v4,v5,v6,dy,fr,cp,dp,tp⟩=L3:=⟨_,rfl⟩
 obtain ⟨L4,hL4⟩:∃L4,segs4 tln tz ⟨v0,v1,v2,v3,v4,v5,v6,dy,fr,cp,dp,tp⟩=L4:=⟨_,rfl⟩
 rw [hL1,hL2,hL3,hL4] at hLL;have HLL:=Lib.hid hLL;have HLB:Hid (L1.length≤2∧L2.length≤1):=Lib.hid (by rw [←hL1,←hL2];unfold segs1 segs2;constructor<;>split<;>simp);have HL0:Hid (L1=[segN 1 4 0 fr 0]++if 0<con then [segN 1 5 cp con 0] else []):=Lib.hid hL1.symm;have HL2:Hid (L2=if 0<dt∨0<bz then [{ segN 1 6 dp dt bz with ot:=if dt=0 then 0 else dp }] else []):=Lib.hid (by rw [←hL2];unfold segs2;simp only;rw [hdt]);have HL3:Hid (L3=[segN 2 4 dy q 0]):=Lib.hid (by rw [←hL3];unfold segs3;simp only;rw [hq]);have HL4:Hid (L4=if 0<tln then [segN 7 4 tp tln tz] else if 0<tz then [segN 7 4 0 0 tz] else []):=Lib.hid hL4.symm;clear hLL hL1 hL2 hL3 hL4 hdt hq;obtain ⟨C,hC⟩:∃C:Array Value,C=#[.int .i64 k,.string so,.slice nda ndn ndc,.int .u64 en,.slice coa con coc,.slice daa dan dac,.int .u64 bz,.slice tla tln tlc,.int .u64 tz,.slice dfa dfn dfc,.slice fxa fxn fxc,.slice tba tbn tbc,.slice pda pdn pdc,.slice pna pnn pnc,.int .u64 v0,.int .u64 v1,.int .u64 v2,.int .u64 v3,.int .u64 v4,.int .u64 v5,.int .u64 v6,.int .u64 dy,.int .u64 fr,.int .u64 cp,.int .u64 dp,.int .u64 tp]:=⟨_,rfl⟩
 have HCC:Hid (∀wx,Blk wx w.heap.size C 84→Blk wx w.heap.size #[.int .i64 k,.string so,.slice nda ndn ndc,.int .u64 en,.slice coa con coc,.slice daa dan dac,.int .u64 bz,.slice tla tln tlc,.int .u64 tz,.slice dfa dfn dfc,.slice fxa fxn fxc,.slice tba tbn tbc,.slice pda pdn pdc,.slice pna pnn pnc,.int .u64 v0,.int .u64 v1,.int .u64 v2,.int .u64 v3,.int .u64 v4,.int .u64 v5,.int .u64 v6,.int .u64 dy,.int .u64 fr,.int .u64 cp,.int .u64 dp,.int .u64 tp] 84):=Lib.hid (fun wx h=>by rw [←hC];exact h);have HBX:Hid (Blk (w.alloc (.cells #[.int .i64 k,.string so,.slice nda ndn ndc,.int .u64 en,.slice coa con coc,.slice daa dan dac,.int .u64 bz,.slice tla tln tlc,.int .u64 tz,.slice dfa dfn dfc,.slice fxa fxn fxc,.slice tba tbn tbc,.slice pda pdn pdc,.slice pna pnn pnc,.int .u64 v0,.int .u64 v1,.int .u64 v2,.int .u64 v3,.int .u64 v4,.int .u64 v5,.int .u64 v6,.int .u64 dy,.int .u64 fr,.int .u64 cp,.int .u64 dp,.int .u64 tp] 84)) w.heap.size C 84):=Lib.hid (by rw [hC];exact Blk.new _ _ _);have HBE:=Lib.hid ((Below.refl w.heap.size w).alloc (Nat.le_refl _) (.cells #[.int .i64 k,.string so,.slice nda ndn ndc,.int .u64 en,.slice coa con coc,.slice daa dan dac,.int .u64 bz,.slice tla tln tlc,.int .u64 tz,.slice dfa dfn dfc,.slice fxa fxn fxc,.slice tba tbn tbc,.slice pda pdn pdc,.slice pna pnn pnc,.int .u64 v0,.int .u64 v1,.int .u64 v2,.int .u64 v3,.int .u64 v4,.int .u64 v5,.int .u64 v6,.int .u64 dy,.int .u64 fr,.int .u64 cp,.int .u64 dp,.int .u64 tp] 84));clear hC;have HS0:=Lib.hid (fun w1=>seg9_any 1 4 0 fr 0 w1 ufr u64_z);obtain ⟨S0,hS0⟩:∃S0,segN 1 4 0 fr 0=S0:=⟨_,rfl⟩
 rw [hS0] at HS0 HL0;clear hS0;obtain ⟨s00,s01,s02,s03,s04,s05,s06⟩:=S0;unfold Sg.val at HS0;simp only at HS0 HL0;go_enter Tryz.func67,Tryz.ntmps67
 go_wp2_with fail;refine (HS0.out _).mono ?_;rintro r w0 ⟨rfl,hb0⟩;have HST0:Hid (SegSt w (w0.alloc (.cells #[.int .u32 s00,.int .u32 s01,.int .u64 s02,.int .u64 s03,.int .u64 s04,.int .u64 s05,.int .u64 s06] 65)) C (.slice (some ⟨w0.heap.size,0,none⟩) 1 1) [⟨s00,s01,s02,s03,s04,s05,s06⟩]):=Lib.hid ⟨⟨rfl,.inr ⟨_,_,_,rfl,by have:=hb0.size;simp at this;omega,Blk.new w0 #[.int .u32 s00,.int .u32 s01,.int .u64 s02,.int .u64 s03,.int .u64 s04,.int .u64 s05,.int .u64 s06] _,Nat.le_refl _,by decide,rfl,rfl⟩⟩,(HBX.out.later hb0).alloc _,(HBE.out.trans (hb0.mono HBE.out.size)).alloc (by have:=HBE.out.size;have:=hb0.size;omega) _⟩;have hbx0:=HCC.out _ (HBX.out.later hb0);have HQ0:=Lib.hid hbx0;have q4:w0.cell? ⟨w.heap.size,4,none⟩=some (.slice coa con coc):=(hbx0).cell 4;have hlt:w.heap.size<w0.heap.size:=(hbx0).lt;clear hb0 hbx0 HBX HBE HS0;go_upto_if 18 with fail
 go_cut [3] (fun l wx=>SegSt w wx C l L1)
 case first=>
  by_cases h1:0<con
  ·have h1i:(0:Int)<con:=by omega
   have HL1:=HL0;rw [if_pos h1] at HL1;have HS1:=Lib.hid (fun w1=>seg9_any 1 5 cp con 0 w1 ucon u64_z);obtain ⟨S1,hS1⟩:∃S1,segN 1 5 cp con 0=S1:=⟨_,rfl⟩
   rw [hS1] at HS1 HL1;clear hS1;obtain ⟨s10,s11,s12,s13,s14,s15,s16⟩:=S1;unfold Sg.val at HS1;simp only at HS1 HL1;have q23:w0.cell? ⟨w.heap.size,23,none⟩=some (.int .u64 cp):=HQ0.out.cell 23;clear h1;go_wp2_with fail;refine (HS1.out _).mono ?_;rintro r w1 ⟨rfl,hb1⟩;have HT1:=Lib.hid (HST0.out.later hb1);clear hb1;go_wp2_with (at_builtin;refine wpList_append_own _ rfl _ _ 27 rfl (w.heap.size+1) 65 i0 _ 7 48 Tryz.underlying27 HI.out HZ0.out HZ1.out HZ2.out rfl (by decide) _ [⟨s00,s01,s02,s03,s04,s05,s06⟩].length _ rfl (HT1.out.own.alloc _) _ 1 1 [.int .u32 s10,.int .u32 s11,.int .u64 s12,.int .u64 s13,.int .u64 s14,.int .u64 s15,.int .u64 s16] rfl rfl ?d1 ?d2 ?d3 ?d4 ?d5 ?_);case d1=>exact lit_cells w1 [.int .u32 s10,.int .u32 s11,.int .u64 s12,.int .u64 s13,.int .u64 s14,.int .u64 s15,.int .u64 s16] _ _ (by simp)
   case d2=>intro u hu;simp at hu;rcases hu with rfl | rfl | rfl | rfl | rfl | rfl | rfl<;>rfl
   case d3=>have:=HLB.out;unfold maxLen;first | omega | (simp;omega) | simp
   case d4=>have:=HLB.out;first | omega | (simp;omega) | simp
   case d5=>have:=HT1.out.box.lt;simp;omega
   intro va1 wa1 hown hg _;have HA1:Hid (SegSt w wa1 C va1 ([⟨s00,s01,s02,s03,s04,s05,s06⟩]++[⟨s10,s11,s12,s13,s14,s15,s16⟩])):=Lib.hid (HT1.out.app (s:=⟨s10,s11,s12,s13,s14,s15,s16⟩) hown hg);clear hown hg HT1;go_wp2;go_meet
   case rel=>rw [HL1.out];exact HA1.out
  ·have h1i:¬(0:Int)<con:=by omega
   have HL1:=HL0;rw [if_neg h1] at HL1;clear h1;go_wp2;go_meet
   case rel=>rw [HL1.out];exact HST0.out
 case rest=>
  have HST1:=Lib.hid hcut;obtain ⟨la,lc,hla,-,-⟩:=own7_slice hcut.own;subst hla;have hbx1:=HCC.out _ hcut.box;have q4:wc.cell? ⟨w.heap.size,4,none⟩=some (.slice coa con coc):=(hbx1).cell 4;have q5:wc.cell? ⟨w.heap.size,5,none⟩=some (.slice daa dan dac):=(hbx1).cell 5;have q6:wc.cell? ⟨w.heap.size,6,none⟩=some (.int .u64 bz):=(hbx1).cell 6;have q7:wc.cell? ⟨w.heap.size,7,none⟩=some (.slice tla tln tlc):=(hbx1).cell 7;have q8:wc.cell? ⟨w.heap.size,8,none⟩=some (.int .u64 tz):=(hbx1).cell 8;have q15:wc.cell? ⟨w.heap.size,15,none⟩=some (.int .u64 v1):=(hbx1).cell 15;have q21:wc.cell? ⟨w.heap.size,21,none⟩=some (.int .u64 dy):=(hbx1).cell 21;have q22:wc.cell? ⟨w.heap.size,22,none⟩=some (.int .u64 fr):=(hbx1).cell 22;have q23:wc.cell? ⟨w.heap.size,23,none⟩=some (.int .u64 cp):=(hbx1).cell 23;have q24:wc.cell? ⟨w.heap.size,24,none⟩=some (.int .u64 dp):=(hbx1).cell 24;have q25:wc.cell? ⟨w.heap.size,25,none⟩=some (.int .u64 tp):=(hbx1).cell 25;have hlt:w.heap.size<wc.heap.size:=(hbx1).lt;clear hcut hbx1 HST0 HL0;go_upto_if 35 with fail
  go_cut [5] (fun v wx=>v=.int .u64 dt∧wx=wc)
  case first=>
   have hd9:=HDT.out;unfold datN at hd9;by_cases h2:0<tln
   ·have h2i:(0:Int)<tln:=by omega
    rw [if_pos h2] at hd9;simp only at hd9;clear h2;go_wp2;go_meet
    case rel=>exact ⟨by first | rfl | rw [hd9],rfl⟩
   ·have h2i:¬(0:Int)<tln:=by omega
    rw [if_neg h2] at hd9;clear h2;go_wp2;go_meet
    case rel=>exact ⟨by first | rfl | rw [hd9],rfl⟩
  case rest=>
   obtain ⟨hv,hw⟩:=hcut;subst hv;subst hw;clear HDT;go_upto_region 8 with fail
   go_cut [54] (fun v wx=>v=.bool (decide (0<dt∨0<bz))∧wx=wc)
   case first=>
    by_cases h3:0<dt
    ·have e3:decide (0<dt∨0<bz)=true:=decide_eq_true (.inl h3);have E3:=Lib.hid e3;clear e3;go_wp2;go_meet
     case rel=>exact ⟨by rw [E3.out],rfl⟩
    ·have e3:decide (0<dt∨0<bz)=decide (0<bz):=by simp [h3]
     have E3:=Lib.hid e3;clear e3;go_wp2;all_goals go_meet
     all_goals exact ⟨by rw [E3.out],rfl⟩
   case rest=>
    obtain ⟨hv,hw⟩:=hcut;subst hv;subst hw;obtain ⟨cb,hcb⟩:∃cb,decide (0<dt∨0<bz)=cb:=⟨_,rfl⟩
    rw [hcb];have HCB:=Lib.hid hcb;clear hcb;go_upto_if 54 with fail
    go_cut [3] (fun l wx=>SegSt w wx C l (L1++L2))
    case first=>
     cases cb with
     | true=>
       have hor:0<dt∨0<bz:=by simpa using HCB.out
       have HLD:=HL2;rw [if_pos hor] at HLD;by_cases h3:dt=0
       ·subst h3;rw [if_pos rfl] at HLD;have HL5:=HLD;have HS5:=Lib.hid (fun w1=>seg9_any 1 6 dp 0 bz w1 u64_z hbz);obtain ⟨S5,hS5⟩:∃S5,segN 1 6 dp 0 bz=S5:=⟨_,rfl⟩
        rw [hS5] at HS5 HL5;clear hS5;obtain ⟨s50,s51,s52,s53,s54,s55,s56⟩:=S5;unfold Sg.val at HS5;simp only at HS5 HL5;clear hor;go_wp2_with fail;refine (HS5.out _).mono ?_;rintro r w5 ⟨rfl,hb5⟩;have HT5:=Lib.hid (HST1.out.later hb5);clear hb5;go_wp2_with (at_builtin;refine wpList_append_own _ rfl _ _ 27 rfl (w.heap.size+1) 65 i0 _ 7 48 Tryz.underlying27 HI.out HZ0.out HZ1.out HZ2.out rfl (by decide) _ L1.length _ rfl ((HT5.out.own.alloc _).alloc _) _ 1 1 [.int .u32 s50,.int .u32 s51,.int .u64 0,.int .u64 s53,.int .u64 s54,.int .u64 s55,.int .u64 s56] rfl rfl ?d1 ?d2 ?d3 ?d4 ?d5 ?_);case d1=>exact lit_cells (w5.alloc _) [.int .u32 s50,.int .u32 s51,.int .u64 0,.int .u64 s53,.int .u64 s54,.int .u64 s55,.int .u64 s56] _ _ (by simp)
        case d2=>intro u hu;simp at hu;rcases hu with rfl | rfl | rfl | rfl | rfl | rfl | rfl<;>rfl
        case d3=>have:=HLB.out;unfold maxLen;first | omega | (simp;omega) | simp
        case d4=>have:=HLB.out;first | omega | (simp;omega) | simp
        case d5=>have:=HT5.out.box.lt;simp;omega
        intro va5 wa5 hown hg _;have HA5:Hid (SegSt w wa5 C va5 (L1++[⟨s50,s51,0,s53,s54,s55,s56⟩])):=Lib.hid ((HT5.out.alloc _).app (s:=⟨s50,s51,0,s53,s54,s55,s56⟩) hown hg);clear hown hg HT5;go_wp2;go_meet
        case rel=>rw [HL5.out];exact HA5.out
       ·have h3b:(dt==0)=false:=by simpa using h3
        rw [if_neg h3] at HLD;have HL5:Hid (L2=[segN 1 6 dp dt bz]):=HLD;have HS5:=Lib.hid (fun w1=>seg9_any 1 6 dp dt bz w1 udt hbz);obtain ⟨S5,hS5⟩:∃S5,segN 1 6 dp dt bz=S5:=⟨_,rfl⟩
        rw [hS5] at HS5 HL5;clear hS5;obtain ⟨s50,s51,s52,s53,s54,s55,s56⟩:=S5;unfold Sg.val at HS5;simp only at HS5 HL5;clear hor h3;go_wp2_with fail;refine (HS5.out _).mono ?_;rintro r w5 ⟨rfl,hb5⟩;have HT5:=Lib.hid (HST1.out.later hb5);clear hb5;go_wp2_with (at_builtin;refine wpList_append_own _ rfl _ _ 27 rfl (w.heap.size+1) 65 i0 _ 7 48 Tryz.underlying27 HI.out HZ0.out HZ1.out HZ2.out rfl (by decide) _ L1.length _ rfl ((HT5.out.own.alloc _).alloc _) _ 1 1 [.int .u32 s50,.int .u32 s51,.int .u64 s52,.int .u64 s53,.int .u64 s54,.int .u64 s55,.int .u64 s56] rfl rfl ?d1 ?d2 ?d3 ?d4 ?d5 ?_);case d1=>exact lit_cells (w5.alloc _) [.int .u32 s50,.int .u32 s51,.int .u64 s52,.int .u64 s53,.int .u64 s54,.int .u64 s55,.int .u64 s56] _ _ (by simp)
        case d2=>intro u hu;simp at hu;rcases hu with rfl | rfl | rfl | rfl | rfl | rfl | rfl<;>rfl
        case d3=>have:=HLB.out;unfold maxLen;first | omega | (simp;omega) | simp
        case d4=>have:=HLB.out;first | omega | (simp;omega) | simp
        case d5=>have:=HT5.out.box.lt;simp;omega
        intro va5 wa5 hown hg _;have HA5:Hid (SegSt w wa5 C va5 (L1++[⟨s50,s51,s52,s53,s54,s55,s56⟩])):=Lib.hid ((HT5.out.alloc _).app (s:=⟨s50,s51,s52,s53,s54,s55,s56⟩) hown hg);clear hown hg HT5;go_wp2;go_meet
        case rel=>rw [HL5.out];exact HA5.out
     | false=>
       have hor:¬(0<dt∨0<bz):=by simpa using HCB.out
       have HLD:=HL2;rw [if_neg hor] at HLD;clear hor;go_wp2;go_meet
       case rel=>rw [HLD.out,List.append_nil];exact HST1.out
    case rest=>
     obtain ⟨L,hL⟩:∃L,L1++L2=L:=⟨_,rfl⟩
     rw [hL] at hcut;have HL:=Lib.hid hL;have HLN:Hid (L.length≤3):=Lib.hid (by rw [←hL,List.length_append];have:=HLB.out;omega);clear hL q4 q5 q6 q7 q8 q15 q21 q22 q23 q24 q25 hlt;have HST2:=Lib.hid hcut;obtain ⟨lb,ld,hlb,-,-⟩:=own7_slice hcut.own;subst hlb;have hbx2:=HCC.out _ hcut.box;have q7:wc.cell? ⟨w.heap.size,7,none⟩=some (.slice tla tln tlc):=(hbx2).cell 7;have q8:wc.cell? ⟨w.heap.size,8,none⟩=some (.int .u64 tz):=(hbx2).cell 8;have q15:wc.cell? ⟨w.heap.size,15,none⟩=some (.int .u64 v1):=(hbx2).cell 15;have q21:wc.cell? ⟨w.heap.size,21,none⟩=some (.int .u64 dy):=(hbx2).cell 21;have q25:wc.cell? ⟨w.heap.size,25,none⟩=some (.int .u64 tp):=(hbx2).cell 25;have hlt:w.heap.size<wc.heap.size:=(hbx2).lt;have hq:=HQQ.out;clear hcut hbx2 HST1 HL2 HCB HLB;have HL6:=HL3;have HS6:=Lib.hid (fun w1=>seg9_any 2 4 dy q 0 w1 uq u64_z);obtain ⟨S6,hS6⟩:∃S6,segN 2 4 dy q 0=S6:=⟨_,rfl⟩
     rw [hS6] at HS6 HL6;clear hS6;obtain ⟨s60,s61,s62,s63,s64,s65,s66⟩:=S6;unfold Sg.val at HS6;simp only at HS6 HL6;go_wp2_with fail;refine (HS6.out _).mono ?_;rintro r w6 ⟨rfl,hb6⟩;have HT6:=Lib.hid (HST2.out.later hb6);clear hb6;go_wp2_with (at_builtin;refine wpList_append_own _ rfl _ _ 27 rfl (w.heap.size+1) 65 i0 _ 7 48 Tryz.underlying27 HI.out HZ0.out HZ1.out HZ2.out rfl (by decide) _ L.length _ rfl (HT6.out.own.alloc _) _ 1 1 [.int .u32 s60,.int .u32 s61,.int .u64 s62,.int .u64 s63,.int .u64 s64,.int .u64 s65,.int .u64 s66] rfl rfl ?d1 ?d2 ?d3 ?d4 ?d5 ?_);case d1=>exact lit_cells w6 [.int .u32 s60,.int .u32 s61,.int .u64 s62,.int .u64 s63,.int .u64 s64,.int .u64 s65,.int .u64 s66] _ _ (by simp)
     case d2=>intro u hu;simp at hu;rcases hu with rfl | rfl | rfl | rfl | rfl | rfl | rfl<;>rfl
     case d3=>have:=HLN.out;unfold maxLen;first | omega | (simp;omega) | simp
     case d4=>have:=HLN.out;first | omega | (simp;omega) | simp
     case d5=>have:=HT6.out.box.lt;simp;omega
     intro va6 wa6 hown hg _;have HA6:Hid (SegSt w wa6 C va6 (L++[⟨s60,s61,s62,s63,s64,s65,s66⟩])):=Lib.hid (HT6.out.app (s:=⟨s60,s61,s62,s63,s64,s65,s66⟩) hown hg);clear hown hg HT6;obtain ⟨L5,hL5⟩:∃L5,L++[⟨s60,s61,s62,s63,s64,s65,s66⟩]=L5:=⟨_,rfl⟩
     rw [hL5] at HA6;have HLM:Hid (L5.length≤4):=Lib.hid (by rw [←hL5,List.length_append];have:=HLN.out;simp;omega);have HFI:Hid (LL=L5++L4):=Lib.hid (by rw [←HLL.out,HL.out,HL6.out,hL5]);have hst6:=HA6.out;obtain ⟨lf,lg,hlf,-,-⟩:=own7_slice hst6.own;subst hlf;have hbx6:=HCC.out _ hst6.box;clear hL5 hst6 hq q7 q8 q15 q21 q25 hlt HLN HL HLL HL6 HL3;have q7:wa6.cell? ⟨w.heap.size,7,none⟩=some (.slice tla tln tlc):=(hbx6).cell 7;have q8:wa6.cell? ⟨w.heap.size,8,none⟩=some (.int .u64 tz):=(hbx6).cell 8;have q25:wa6.cell? ⟨w.heap.size,25,none⟩=some (.int .u64 tp):=(hbx6).cell 25;have hlt:w.heap.size<wa6.heap.size:=(hbx6).lt;clear hbx6;have hL4:=HL4.out;by_cases h2:0<tln
     ·have h2i:(0:Int)<tln:=by omega
      rw [if_pos h2] at hL4;have HL7:=Lib.hid hL4;clear hL4 h2;have HS7:=Lib.hid (fun w1=>seg9_any 7 4 tp tln tz w1 utln htz);obtain ⟨S7,hS7⟩:∃S7,segN 7 4 tp tln tz=S7:=⟨_,rfl⟩
      rw [hS7] at HS7 HL7;clear hS7;obtain ⟨s70,s71,s72,s73,s74,s75,s76⟩:=S7;unfold Sg.val at HS7;simp only at HS7 HL7;go_wp2_with fail;refine (HS7.out _).mono ?_;rintro r w7 ⟨rfl,hb7⟩;have HT7:=Lib.hid (HA6.out.later hb7);clear hb7;go_wp2_with (at_builtin;refine wpList_append_own _ rfl _ _ 27 rfl (w.heap.size+1) 65 i0 _ 7 48 Tryz.underlying27 HI.out HZ0.out HZ1.out HZ2.out rfl (by decide) _ L5.length _ rfl (HT7.out.own.alloc _) _ 1 1 [.int .u32 s70,.int .u32 s71,.int .u64 s72,.int .u64 s73,.int .u64 s74,.int .u64 s75,.int .u64 s76] rfl rfl ?d1 ?d2 ?d3 ?d4 ?d5 ?_);case d1=>exact lit_cells w7 [.int .u32 s70,.int .u32 s71,.int .u64 s72,.int .u64 s73,.int .u64 s74,.int .u64 s75,.int .u64 s76] _ _ (by simp)
      case d2=>intro u hu;simp at hu;rcases hu with rfl | rfl | rfl | rfl | rfl | rfl | rfl<;>rfl
      case d3=>have:=HLM.out;unfold maxLen;first | omega | (simp;omega) | simp
      case d4=>have:=HLM.out;first | omega | (simp;omega) | simp
      case d5=>have:=HT7.out.box.lt;simp;omega
      intro va7 wa7 hown hg _;have HA7:Hid (SegSt w wa7 C va7 (L5++[⟨s70,s71,s72,s73,s74,s75,s76⟩])):=Lib.hid (HT7.out.app (s:=⟨s70,s71,s72,s73,s74,s75,s76⟩) hown hg);clear hown hg HT7;go_wp2;go_ret;exact ⟨⟨_,rfl,by rw [HFI.out,HL7.out];exact own7_base HA7.out.own (Nat.le_succ _)⟩,HA7.out.bel⟩
     ·have h2i:¬(0:Int)<tln:=by omega
      rw [if_neg h2] at hL4;clear h2;by_cases h3:0<tz
      ·rw [if_pos h3] at hL4;have HL7:=Lib.hid hL4;clear hL4;have HS7:=Lib.hid (fun w1=>seg9_any 7 4 0 0 tz w1 u64_z htz);obtain ⟨S7,hS7⟩:∃S7,segN 7 4 0 0 tz=S7:=⟨_,rfl⟩
       rw [hS7] at HS7 HL7;clear hS7;obtain ⟨s70,s71,s72,s73,s74,s75,s76⟩:=S7;unfold Sg.val at HS7;simp only at HS7 HL7;go_wp2_with fail;refine (HS7.out _).mono ?_;rintro r w7 ⟨rfl,hb7⟩;have HT7:=Lib.hid (HA6.out.later hb7);clear hb7;go_wp2_with (at_builtin;refine wpList_append_own _ rfl _ _ 27 rfl (w.heap.size+1) 65 i0 _ 7 48 Tryz.underlying27 HI.out HZ0.out HZ1.out HZ2.out rfl (by decide) _ L5.length _ rfl (HT7.out.own.alloc _) _ 1 1 [.int .u32 s70,.int .u32 s71,.int .u64 s72,.int .u64 s73,.int .u64 s74,.int .u64 s75,.int .u64 s76] rfl rfl ?d1 ?d2 ?d3 ?d4 ?d5 ?_);case d1=>exact lit_cells w7 [.int .u32 s70,.int .u32 s71,.int .u64 s72,.int .u64 s73,.int .u64 s74,.int .u64 s75,.int .u64 s76] _ _ (by simp)
       case d2=>intro u hu;simp at hu;rcases hu with rfl | rfl | rfl | rfl | rfl | rfl | rfl<;>rfl
       case d3=>have:=HLM.out;unfold maxLen;first | omega | (simp;omega) | simp
       case d4=>have:=HLM.out;first | omega | (simp;omega) | simp
       case d5=>have:=HT7.out.box.lt;simp;omega
       intro va7 wa7 hown hg _;have HA7:Hid (SegSt w wa7 C va7 (L5++[⟨s70,s71,s72,s73,s74,s75,s76⟩])):=Lib.hid (HT7.out.app (s:=⟨s70,s71,s72,s73,s74,s75,s76⟩) hown hg);clear hown hg HT7;go_wp2;go_ret;exact ⟨⟨_,rfl,by rw [HFI.out,HL7.out];exact own7_base HA7.out.own (Nat.le_succ _)⟩,HA7.out.bel⟩
      ·rw [if_neg h3] at hL4;have HL7:=Lib.hid hL4;clear hL4;go_wp2;go_ret;exact ⟨⟨_,rfl,by rw [HFI.out,HL7.out,List.append_nil];exact own7_base HA6.out.own (Nat.le_succ _)⟩,HA6.out.bel⟩
theorem blk_alloc_cases {w:World} {C' C:Array Value} {t T:TypeId} {g:Nat} (h:Blk (w.alloc (.cells C' t)) g C T):Blk w g C T∨(g=w.heap.size∧C=C'∧T=t):=by
 have hl:=h.lt;rw [World.size_alloc] at hl;by_cases hg:g=w.heap.size
 ·subst hg;have h1:=Blk.new w C' t;unfold Blk at h h1;rw [h1] at h;injection h with h;injection h with h2 h3;exact .inr ⟨rfl,h2.symm,h3.symm⟩
 ·left
  have hb:Below w.heap.size w (w.alloc (.cells C' t)):=(Below.refl _ _).alloc (Nat.le_refl _) _;unfold Blk at h⊢;rw [←hb.block g (by omega)];exact h
theorem Blk.sets {w:World} {g g' i:Nat} {C:Array Value} {t:TypeId} (h:Blk w g C t) (v:Value):∃C',Blk (w.setCell ⟨g',i,none⟩ v) g C' t∧C'.size=C.size:=by
 by_cases e:g=g'
 ·subst e;exact ⟨_,h.set i v,by simp⟩
 ·exact ⟨C,h.setOther e v,rfl⟩
theorem Blk.unset {w:World} {g g' i:Nat} {C:Array Value} {t:TypeId} {v:Value} (h:Blk (w.setCell ⟨g',i,none⟩ v) g C t):∃C',Blk w g C' t:=by
 by_cases e:g=g'
 ·subst e;have hl:=h.lt;rw [World.size_setCell] at hl;unfold Blk at h⊢;simp only [World.setCell,Array.getElem?_modify,if_pos] at h;rw [Array.getElem?_eq_getElem hl] at h⊢;revert h;cases w.heap[g] with
  | cells C0 t0 f0=>
    intro h;simp at h;obtain ⟨h1,h2,h3⟩:=h;subst h2;subst h3;exact ⟨C0,rfl⟩
  | _=>intro h;simp at h
 ·unfold Blk at h⊢;rw [Below.heap_setCell _ _ _ _ e] at h;exact ⟨C,h⟩
theorem Blk.same {w:World} {g:Nat} {C C':Array Value} {t t':TypeId} (h:Blk w g C t) (h':Blk w g C' t'):C=C'∧t=t':=by
 unfold Blk at h h';rw [h'] at h;injection h with h;injection h with h2 h3;exact ⟨h2.symm,h3.symm⟩
def NoB (B0:Nat) (T:TypeId) (w:World):Prop:=∀g C,B0≤g→¬Blk w g C T
def OneB (B0:Nat) (T:TypeId) (w:World):Prop:=∀g g' C C',B0≤g→B0≤g'→Blk w g C T→Blk w g' C' T→g=g'
def AllB (B0:Nat) (T:TypeId) (V:Array Value) (w:World):Prop:=∀g C,B0≤g→Blk w g C T→C=V
structure Rbx (B0:Nat) (w w':World):Prop where
 bel:Below B0 w w'
 kp:∀g C T,B0≤g→Blk w g C T→∃C',Blk w' g C' T∧C'.size=C.size
theorem Rbx.refl (B0:Nat) (w:World):Rbx B0 w w:=⟨Below.refl _ _,fun g C T _ h=>⟨C,h,rfl⟩⟩
theorem Rbx.later {B0:Nat} {w w':World} (hB:B0≤w.heap.size) (h:Below w.heap.size w w'):Rbx B0 w w':=⟨h.mono hB,fun g C T _ hb=>⟨C,hb.later h,rfl⟩⟩
theorem Rbx.set {B0 g:Nat} {w w':World} (h:Rbx B0 w w') (hg:B0≤g) (i:Nat) (v:Value):Rbx B0 w (w'.setCell ⟨g,i,none⟩ v):=
 ⟨h.bel.setCell hg v,fun g' C T hB hb=>by
  obtain ⟨C1,h1,e1⟩:=h.kp g' C T hB hb;obtain ⟨C2,h2,e2⟩:=h1.sets (g':=g) (i:=i) v;exact ⟨C2,h2,e2.trans e1⟩⟩
def Fb (B0:Nat) (T:TypeId) (k:Nat) (u:Value) (w:World):Prop:=∃g C,u=.pointer (some ⟨g,0,none⟩)∧B0≤g∧Blk w g C T∧C.size=k
def MonoR (R:World→World→Prop) (f:Value→World→Prop):Prop:=∀u w w',f u w→R w w'→f u w'
theorem factsOf_monoR {R:World→World→Prop} {Fs:List (Value→World→Prop)} (h:∀f∈Fs,MonoR R f):∀(i:Nat) (u:Value) (w w':World),factsOf Fs i u w→R w w'→factsOf Fs i u w':=by
 intro i u w w' hf hb;unfold factsOf at *;rw [List.getD_eq_getElem?_getD] at *;cases e:Fs[i]? with
 | none=>trivial
 | some f=>
   rw [e] at hf;exact h f (List.mem_of_getElem? e) _ _ _ hf hb
theorem monoR_cons {R:World→World→Prop} {f:Value→World→Prop} {Fs:List (Value→World→Prop)} (h:MonoR R f) (k:∀f∈Fs,MonoR R f):∀x∈f :: Fs,MonoR R x:=by
 intro x hx;rcases List.mem_cons.1 hx with rfl | hx
 ·exact h
 ·exact k x hx
theorem monoR_nil (R:World→World→Prop):∀f∈([]:List (Value→World→Prop)),MonoR R f:=fun _ h=>by cases h
theorem Is.monoR (R:World→World→Prop) (v:Value):MonoR R (Is v):=fun _ _ _ h _=>h
def AnyB:Value→World→Prop:=fun _ _=>True
theorem AnyB.monoR (R:World→World→Prop):MonoR R AnyB:=fun _ _ _ _ _=>trivial
theorem Fb.monoR (B0:Nat) (T:TypeId) (k:Nat):MonoR (Rbx B0) (Fb B0 T k):=fun _ _ _ h hR=>by
 obtain ⟨g,C,e,hB,hb,hk⟩:=h;obtain ⟨C',h1,e1⟩:=hR.kp g C T hB hb;exact ⟨g,C',e,hB,h1,e1.trans hk⟩
def Jb (i j:Nat) (wd:World) (T:TypeId) (V:Array Value) (L:Nat→Bool) (w:World):Prop:=
 Jw i j (fun w=>Below wd.heap.size wd w∧NoB wd.heap.size T w) (fun w=>Below wd.heap.size wd w∧OneB wd.heap.size T w) (fun w=>Below wd.heap.size wd w∧AllB wd.heap.size T V w) L w
theorem Jb.congr {i j m:Nat} {wd:World} {T:TypeId} {V:Array Value} (hi:i<m) (hj:j<m):∀L L' w,(∀k,k<m→L k=L' k)→Jb i j wd T V L w→Jb i j wd T V L' w:=Jw.congr hi hj
theorem Jb.pure {i j k:Nat} {wd w:World} {T:TypeId} {V:Array Value} {L:Nat→Bool} (h:Jb i j wd T V L w) (hi:i≠k) (hj:j≠k):Jb i j wd T V (upd L k) w:=Jw.pure h hi hj
theorem Jb.start {i j:Nat} {wd:World} {T:TypeId} {V:Array Value}:Jb i j wd T V (fun _=>false) wd:=
 ⟨fun _ _=>⟨Below.refl _ _,fun g C hB hb=>by have:=hb.lt;omega⟩,fun h _=>(by cases h),fun h=>(by cases h)⟩
theorem Jb.bel {i j:Nat} {wd w:World} {T:TypeId} {V:Array Value} {L:Nat→Bool} (h:Jb i j wd T V L w):Below wd.heap.size wd w:=by
 cases hj:L j with
 | true=>exact (h.p2 hj).1
 | false=>
   cases hi:L i with
   | true=>exact (h.p1 hi hj).1
   | false=>exact (h.p0 hi hj).1
theorem Jb.alloc {i j k:Nat} {wd w:World} {T t:TypeId} {V C:Array Value} {L:Nat→Bool} (h:Jb i j wd T V L w) (hi:i≠k) (hj:j≠k) (ht:T≠t):Jb i j wd T V (upd L k) (w.alloc (.cells C t)):=by
 have hs:=h.bel.size;have old:∀g C',Blk (w.alloc (.cells C t)) g C' T→Blk w g C' T:=fun g C' hb=>by
  rcases blk_alloc_cases hb with h1 | ⟨_,_,h3⟩
  ·exact h1
  ·exact absurd h3 ht
 refine ⟨?_,?_,?_⟩
 ·rw [upd_other _ hi,upd_other _ hj];intro h1 h2;obtain ⟨hb,hn⟩:=h.p0 h1 h2;exact ⟨hb.alloc hs _,fun g C' hB hx=>hn g C' hB (old g C' hx)⟩
 ·rw [upd_other _ hi,upd_other _ hj];intro h1 h2;obtain ⟨hb,hn⟩:=h.p1 h1 h2;exact ⟨hb.alloc hs _,fun g g' C1 C2 hB hB' hx hy=>hn g g' C1 C2 hB hB' (old _ _ hx) (old _ _ hy)⟩
 ·rw [upd_other _ hj];intro h1;obtain ⟨hb,hn⟩:=h.p2 h1;exact ⟨hb.alloc hs _,fun g C1 hB hx=>hn g C1 hB (old _ _ hx)⟩
theorem Jb.first {i j:Nat} {wd w:World} {T:TypeId} {V C:Array Value} {L:Nat→Bool} (h:Jb i j wd T V L w) (hij:j≠i) (hi:L i=false) (hj:L j=false):Jb i j wd T V (upd L i) (w.alloc (.cells C T)):=by
 obtain ⟨hb,hn⟩:=h.p0 hi hj;refine Jw.first hij hj ⟨hb.alloc hb.size _,fun g g' C1 C2 hB hB' hx hy=>?_⟩;rcases blk_alloc_cases hx with h1 | ⟨h1,_,_⟩
 ·exact absurd h1 (hn g C1 hB)
 ·rcases blk_alloc_cases hy with h2 | ⟨h2,_,_⟩
  ·exact absurd h2 (hn g' C2 hB')
  ·rw [h1,h2]
theorem Jb.second {i j g:Nat} {wd w w':World} {T:TypeId} {V C:Array Value} {L:Nat→Bool} (h:Jb i j wd T V L w) (hi:L i=true) (hj:L j=false) (hB:wd.heap.size≤g) (hb:Blk w g C T) (hV:Blk w' g V T) (hR:Rbx wd.heap.size w w') (hty:∀g' C1,Blk w' g' C1 T→∃C2,Blk w g' C2 T):Jb i j wd T V (upd L j) w':=by
 obtain ⟨hbe,hn⟩:=h.p1 hi hj;refine Jw.second ⟨hbe.trans hR.bel,fun g' C1 hB' hx=>?_⟩;obtain ⟨C2,h2⟩:=hty g' C1 hx;obtain rfl:=hn g g' C C2 hB hB' hb h2;exact (hx.same hV).1
theorem Jb.done {i j:Nat} {wd w:World} {T:TypeId} {V:Array Value} {L:Nat→Bool} (h:Jb i j wd T V L w) (hj:L j=true):Below wd.heap.size wd w∧AllB wd.heap.size T V w:=h.p2 hj
theorem arr4 {C:Array Value} (h:C.size=4):∃a b c d,C=#[a,b,c,d]:=by
 obtain ⟨l⟩:=C
 match l,h with
 | [a,b,c,d],_=>exact ⟨a,b,c,d,rfl⟩
theorem arr6 {C:Array Value} (h:C.size=6):∃a b c d e f,C=#[a,b,c,d,e,f]:=by
 obtain ⟨l⟩:=C
 match l,h with
 | [a,b,c,d,e,f],_=>exact ⟨a,b,c,d,e,f,rfl⟩
theorem Blk.all4 {w:World} {g:Nat} {t:TypeId} {c0 c1 c2 c3:Value} (h:Blk w g #[c0,c1,c2,c3] t) (v0 v1 v2 v3:Value):Blk ((((w.setCell ⟨g,0,none⟩ v0).setCell ⟨g,1,none⟩ v1).setCell ⟨g,2,none⟩ v2).setCell ⟨g,3,none⟩ v3) g #[v0,v1,v2,v3] t:=by
 have h0:Blk (w.setCell ⟨g,0,none⟩ v0) g #[v0,c1,c2,c3] t:=by have q:=h.set 0 v0;exact q
 have h1:Blk ((w.setCell ⟨g,0,none⟩ v0).setCell ⟨g,1,none⟩ v1) g #[v0,v1,c2,c3] t:=by have q:=h0.set 1 v1;exact q
 have h2:Blk (((w.setCell ⟨g,0,none⟩ v0).setCell ⟨g,1,none⟩ v1).setCell ⟨g,2,none⟩ v2) g #[v0,v1,v2,c3] t:=by have q:=h1.set 2 v2;exact q
 have q:=h2.set 3 v3;exact q
theorem Blk.all6 {w:World} {g:Nat} {t:TypeId} {c0 c1 c2 c3 c4 c5:Value} (h:Blk w g #[c0,c1,c2,c3,c4,c5] t) (v0 v1 v2 v3 v4 v5:Value):Blk ((((((w.setCell ⟨g,0,none⟩ v0).setCell ⟨g,1,none⟩ v1).setCell ⟨g,2,none⟩ v2).setCell ⟨g,3,none⟩ v3).setCell ⟨g,4,none⟩ v4).setCell ⟨g,5,none⟩ v5) g #[v0,v1,v2,v3,v4,v5] t:=by
 have h0:Blk (w.setCell ⟨g,0,none⟩ v0) g #[v0,c1,c2,c3,c4,c5] t:=by have q:=h.set 0 v0;exact q
 have h1:Blk ((w.setCell ⟨g,0,none⟩ v0).setCell ⟨g,1,none⟩ v1) g #[v0,v1,c2,c3,c4,c5] t:=by have q:=h0.set 1 v1;exact q
 have h2:Blk (((w.setCell ⟨g,0,none⟩ v0).setCell ⟨g,1,none⟩ v1).setCell ⟨g,2,none⟩ v2) g #[v0,v1,v2,c3,c4,c5] t:=by have q:=h1.set 2 v2;exact q
 have h3:Blk ((((w.setCell ⟨g,0,none⟩ v0).setCell ⟨g,1,none⟩ v1).setCell ⟨g,2,none⟩ v2).setCell ⟨g,3,none⟩ v3) g #[v0,v1,v2,v3,c4,c5] t:=by have q:=h2.set 3 v3;exact q
 have h4:Blk (((((w.setCell ⟨g,0,none⟩ v0).setCell ⟨g,1,none⟩ v1).setCell ⟨g,2,none⟩ v2).setCell ⟨g,3,none⟩ v3).setCell ⟨g,4,none⟩ v4) g #[v0,v1,v2,v3,v4,c5] t:=by have q:=h3.set 4 v4;exact q
 have q:=h4.set 5 v5;exact q
end Go.Proofs.YtclgbdfkdbbinaaGreat
