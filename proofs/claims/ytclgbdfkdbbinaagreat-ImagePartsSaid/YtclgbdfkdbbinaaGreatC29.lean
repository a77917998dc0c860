/-
  What is proved here: words and contracts, a part of those that the statement rests on (C29).
  Conditions: none but that the arguments are values of their types.
-/
import Derived.Test.YtclgbdfkdbbinaaGreatC17
import Derived.Test.YtclgbdfkdbbinaaGreatC28
import Derived.Test.YtclgbdfkdbbinaaGreatC15
import Derived.Test.YtclgbdfkdbbinaaGreatC16
import Derived.Test.YtclgbdfkdbbinaaGreatC18
import Derived.Test.YtclgbdfkdbbinaaGreatC26
import Derived.Test.YtclgbdfkdbbinaaGreatC5
import Derived.Test.YtclgbdfkdbbinaaGreatC1
import Derived.Test.YtclgbdfkdbbinaaGreatC10
import Derived.Test.YtclgbdfkdbbinaaGreatC7
import Derived.Test.YtclgbdfkdbbinaaGreatC11
import Derived.Test.YtclgbdfkdbbinaaGreatC8
import Derived.Test.YtclgbdfkdbbinaaGreatC14
import Derived.Deep.Cut
import Derived.Deep.DeepCutAuto
import Derived.Deep.CutBlock
import Derived.Laws.AppendOwn
import Derived.Laws.MakeOwn
import Derived.Laws.OwnMore
import Derived.Test.YtclgbdfkdbbinaaGreatRows
import Derived.ProofKit
import Derived.OpenShut
import Derived.Deep.Slices
import Derived.Deep.Fields
import Derived.ChangeSame
set_option linter.unusedVariables false
set_option linter.unusedSimpArgs false
set_option maxRecDepth 100000
set_option maxHeartbeats 12800000
namespace Go.Proofs.YtclgbdfkdbbinaaGreat
open Go.RowKit
def BuildOwn (Z:Int×List Int) (w:World) (e:Ending) (w':World):Prop:=
 ∃u,e=.returned (.tuple #[u,.int .i64 Z.1])∧w'.ownsRow w.heap.size 5 1 u Z.2.length (Z.2.map (Value.int .u8))∧Below w.heap.size w w'
theorem BuildOwn.none {w w':World} {e:Int} (h:Below w.heap.size w w'):BuildOwn (e,[]) w (.returned (.tuple #[.slice none 0 0,.int .i64 e])) w':=
 ⟨_,rfl,World.ownsRow_nil _ _ _ _,h⟩
theorem own_ptr {w:World} {base n k:Nat} {e:TypeId} {a:Option Addr} {c:Nat} {xs:List Value} (h:w.ownsRow base e k (.slice a n c) n xs) (hn:0<n):∃g,a=some ⟨g,0,none⟩:=by
 rcases h.2 with ⟨hv,e0⟩ | ⟨g,c',cur,hv,_⟩
 ·omega
 ·injection hv with h1 h2 h3;exact ⟨g,h1⟩
theorem few_names {m:Sp} (h1:m.so.size≤maxLen) (h2:∀s∈m.nd,s.size≤maxLen) (h3:∀d∈m.df,d.nm.size≤maxLen):∀i,(nm (listB m) i).size≤maxLen:=by
 intro i;unfold nm;by_cases hi:i<(listB m).length
 ·rw [List.getD_eq_getElem?_getD,List.getElem?_eq_getElem hi];have hm:(listB m)[i]∈listB m:=List.getElem_mem hi;show ((listB m)[i]).size≤maxLen;generalize (listB m)[i]=s at hm;unfold listB at hm;rcases List.mem_cons.1 hm with rfl | hm
  ·exact h1
  ·rcases List.mem_append.1 hm with hm | hm
   ·exact h2 _ hm
   ·obtain ⟨d,hd,rfl⟩:=List.mem_map.1 hm;exact h3 _ hd
 ·rw [List.getD_eq_getElem?_getD,List.getElem?_eq_none (by omega)];show ByteArray.empty.size≤maxLen;decide
theorem Spv.Is.may {x:Spv} {m:Sp} {w:World} {B:Nat} (h:x.Is w B m) (hv:validN m=true) (hs:smallN m=true) (ht:(tabB m).length≤65536) (l1:m.nd.length≤1000) (l2:m.df.length≤1000) (l3:m.fx.length≤1000):MayB m:=by
 obtain ⟨v1,v2,v3⟩:=(valid_iff m).1 hv;unfold smallN at hs;rw [decide_eq_true_eq] at hs;have hb:=h.bbs;have htb:=h.btb;refine ⟨v3,fun d hd=>?_,fun f hf=>?_,⟨hb.1,hs.1⟩,⟨htb.1,hs.2.1⟩,hs.2.2,h.ben,ht,l1,l2,l3,fun d hd=>(h.df.hok d hd).of,fun f hf=>?_⟩
 ·have:=List.any_eq_false.1 v1 d hd;unfold badDf at this;rw [decide_eq_true_eq] at this;omega
 ·have:=List.any_eq_false.1 v2 f hf;unfold badFx at this;rw [decide_eq_true_eq] at this;omega
 ·have:=h.fx.hok f hf;exact ⟨this.of,this.ty,this.ad⟩
structure Nps (w:World) (B:Nat) (m:Sp) (ta:Option Addr) (tc pb pln plc:Nat):Prop where
 t:Bys w B ta (tabB m).length (tabB m)
 tk:(tabB m).length≤tc∧(tc:Int)≤9223372036854775807
 p:Nus w B (some ⟨pb,0,none⟩) pln (outB m)
 pk:pln≤plc∧(plc:Int)≤9223372036854775807
 pl:pln=1+m.nd.length+m.df.length
theorem Nps.bu {w:World} {B:Nat} {m:Sp} {ta:Option Addr} {tc pb pln plc:Nat} {x:Spv} (h:Nps w B m ta tc pb pln plc) (hx:x.Is w B m) (hm:MayB m) (pd pn:Nat) (hpn:pn=if plc=1 then 0 else 0+1) (hpd:pd=if plc=1+m.nd.length then 0 else 0+(1+m.nd.length)) :
 Bu.Is w B ⟨x,⟨ta,(tabB m).length,tc⟩,⟨some ⟨pb,pd,none⟩,pln-(1+m.nd.length),plc-(1+m.nd.length)⟩,⟨some ⟨pb,pn,none⟩,m.nd.length,plc-1⟩,biB m⟩ ⟨m,tabB m,(outB m).drop (1+m.nd.length),needO m,biB m⟩:=by
 have hpl:=h.pl;have hpk:=h.pk;have e1:=Nus.sub h.p (1+m.nd.length) (pln-(1+m.nd.length)) pd (by omega) (by rw [hpd];split<;>omega);rw [List.take_of_length_le (by rw [List.length_drop,outB_len];omega)] at e1;have e2:=Nus.sub h.p 1 m.nd.length pn (by omega) (by rw [hpn];split<;>omega);have hb:=h.tk;exact ⟨hx,h.t,e1,e2,rfl,⟨hx.ond,hx.oco,hx.oda,hx.otl,hx.odf,hx.ofx,⟨hb.1,hb.2⟩,⟨by show pln-_≤plc-_;omega,by show ((plc-(1+m.nd.length):Nat):Int)≤_;omega⟩,⟨by show m.nd.length≤plc-1;omega,by show ((plc-1:Nat):Int)≤_;omega⟩,by rw [hx.en];exact hm.en,by rw [hx.bs];have:=hm.bs;unfold u64B;omega,by rw [hx.tb];have:=hm.tb;unfold u64B;omega,biB_ok hm⟩⟩
theorem out_mem {m:Sp} (h:MayB m):∀z∈outB m,0≤z∧z≤18446744073709551615:=fun z hz=>by
 obtain ⟨i,hi,rfl⟩:=List.getElem_of_mem hz;have h1:=out_bd h i;rw [List.getD_eq_getElem?_getD,List.getElem?_eq_getElem hi] at h1;have h2:0≤(outB m)[i]∧(outB m)[i]≤65536:=h1;omega
theorem plan_of {B:Nat} {m:Sp} {ta:Option Addr} {tc pb pln plc:Nat} {x:Spv} (w:World) (hB:B≤w.heap.size) (h:Nps w B m ta tc pb pln plc) (hx:x.Is w B m) (hm:MayB m) (pd pn:Nat) (hpn:pn=if plc=1 then 0 else 0+1) (hpd:pd=if plc=1+m.nd.length then 0 else 0+(1+m.nd.length)) :
 Calls Tryz.prog 31 #[x.val,.slice ta (tabB m).length tc,.slice (some ⟨pb,0,none⟩) pln plc] w fun r w'=>r=.returned (Bu.val ⟨x,⟨ta,(tabB m).length,tc⟩,⟨some ⟨pb,pd,none⟩,pln-(1+m.nd.length),plc-(1+m.nd.length)⟩,⟨some ⟨pb,pn,none⟩,m.nd.length,plc-1⟩,biB m⟩)∧Below w.heap.size w w':=by
 have hbu:=h.bu hx hm pd pn hpn hpd;have hnl:=hx.nd.1;have hcl:=hx.co.1;have hdl:=hx.da.1;have htl:=hx.tl.1;have hfl:=hx.df.hl;have hxl:=hx.fx.hl;have hpl:=h.pl;have hpk:=h.pk;have hok:=hbu.ok;have hbs:=hx.bs;have htb:=hx.tb;have h1:=hm.sz;have h2:=hm.tab;have h3:=hm.fxl;have h4:=hm.dfl;have h5:=hm.nd;have hN:=hbu.pn;obtain ⟨b',o',e,hb',hc⟩:=h.p.hc (by omega);injection e with e;injection e with e1 e2;subst e1;subst e2;have hc0:=hc 0 (by omega);clear hbu hx hc;obtain ⟨k,so,⟨nda,ndn,ndc⟩,en,⟨coa,con,coc⟩,⟨daa,dan,dac⟩,bz,⟨tla,tln,tlc⟩,tz,⟨dfa,dfn,dfc⟩,⟨fxa,fxn,fxc⟩⟩:=x;simp only at hnl hcl hdl htl hfl hxl hbs htb hN hok;subst hnl hcl hdl htl hfl hxl hbs htb;have hok0:Bu.Ok ⟨⟨k,so,⟨nda,m.nd.length,ndc⟩,en,⟨coa,m.co.length,coc⟩,⟨daa,m.da.length,dac⟩,m.bs,⟨tla,m.tl.length,tlc⟩,m.tb,⟨dfa,m.df.length,dfc⟩,⟨fxa,m.fx.length,fxc⟩⟩,⟨ta,(tabB m).length,tc⟩,⟨some ⟨pb,pd,none⟩,pln-(1+m.nd.length),plc-(1+m.nd.length)⟩,⟨some ⟨pb,pn,none⟩,m.nd.length,plc-1⟩,⟨(outB m).getD 0 0,0,((tabB m).length:Int),0,symN m,0,24*(m.fx.length:Int),0,0,0,0,0⟩⟩:=
  ⟨hok.nd,hok.co,hok.da,hok.tl,hok.df,hok.fx,hok.tb,hok.pd,hok.pn,hok.en,hok.bs,hok.tz,⟨hok.i.v0,u64_z,hok.i.v2,u64_z,hok.i.v4,u64_z,hok.i.v6,u64_z,u64_z,u64_z,u64_z,u64_z⟩⟩
 refine (plan9_any w k so nda m.nd.length ndc en coa m.co.length coc daa m.da.length dac m.bs tla m.tl.length tlc m.tb dfa m.df.length dfc fxa m.fx.length fxc ta (tabB m).length tc pb 0 pd pn pln plc ((outB m).getD 0 0) (strB m) (symB m) (symN m) (relB m) (dynB m) (endB m) (codeB m) (dataB m) (tlsB m) B hB (needO m) hN hok0 h5 (by omega) hpk.1 hpk.2 hpn hpd hc0 (by omega) (by omega) (by omega) (by omega) (by omega) (by omega) rfl ?_ rfl rfl rfl rfl rfl rfl rfl).mono ?_
 ·rw [segs0_len _ m hm rfl rfl rfl rfl rfl rfl rfl];rfl
 ·exact fun r w' h=>h
theorem build9_any (B:Nat) (x:Spv) (m:Sp) (w:World) (h:x.Is w B m) (hB:B≤w.heap.size) (hnil:x.nd.a=none→x.nd.c=0) (l1:m.nd.length≤1000) (l2:m.df.length≤1000) (l3:m.fx.length≤1000) (l4:m.co.length≤1000000) (l5:m.da.length≤1000000) (l6:m.tl.length≤1000000)
 (n1:m.so.size≤maxLen) (n2:∀s∈m.nd,s.size≤maxLen) :
 Calls Tryz.prog 15 #[x.val] w (BuildOwn (buildI m) w):=by
 have n3:=few_names n1 n2 (fun d hd=>(h.df.hok d hd).nm);have HVA:Hid (∀w1,Below w.heap.size w w1→_):=Lib.hid (fun w1 hb=>valid9_any B x m w1 (h.below (hb.mono hB)) (Nat.le_trans hB hb.size) (by omega) (by omega));have HSM:Hid (∀w1,Below w.heap.size w w1→_):=Lib.hid (fun w1 hb=>small9_any B x m w1 (h.below (hb.mono hB)) l4 l5 l6);have HNM:Hid (∀w1,Below w.heap.size w w1→_):=Lib.hid (fun w1 hb=>names9_any B x m w1 (h.below (hb.mono hB)) (Nat.le_trans hB hb.size) hnil (by omega) (by omega));have HPL:Hid (∀w1,Below w.heap.size w w1→∀ta tc pb pln plc pd pn,Nps w1 w1.heap.size m ta tc pb pln plc→MayB m→pn=(if plc=1 then 0 else 0+1)→pd=(if plc=1+m.nd.length then 0 else 0+(1+m.nd.length))→_):=Lib.hid (fun w1 hb ta tc pb pln plc pd pn hp hm hpn hpd=>plan_of w1 (Nat.le_refl _) hp ((h.below (hb.mono hB)).more (Nat.le_trans hB hb.size)) hm pd pn hpn hpd);have HBU:Hid (∀w1 w2,Below w.heap.size w w1→Below w1.heap.size w1 w2→∀ta tc pb pln plc pd pn,Nps w1 w1.heap.size m ta tc pb pln plc→MayB m→pn=(if plc=1 then 0 else 0+1)→pd=(if plc=1+m.nd.length then 0 else 0+(1+m.nd.length))→_):=Lib.hid (fun w1 w2 hb hb2 ta tc pb pln plc pd pn hp hm hpn hpd=>((hp.bu ((h.below (hb.mono hB)).more (Nat.le_trans hB hb.size)) hm pd pn hpn hpd).below hb2).more hb2.size);have HMB:Hid (validN m=true→smallN m=true→(tabB m).length≤65536→MayB m):=Lib.hid (fun a b c=>h.may a b c l1 l2 l3);have HN3:=Lib.hid n3;have hkk:=h.k;have hxc:=h.co.1;have hxd:=h.da.1;have hxt:=h.tl.1;have hxb:=h.bs;have hxz:=h.tb;have hxe:=h.en;have HLL:=Lib.hid (listB_len m);clear h hnil n1 n2 n3 l4 l5 l6;obtain ⟨k,so,⟨nda,ndn,ndc⟩,en,⟨coa,con,coc⟩,⟨daa,dan,dac⟩,bz,⟨tla,tln,tlc⟩,tz,⟨dfa,dfn,dfc⟩,⟨fxa,fxn,fxc⟩⟩:=x;simp only at hkk hxc hxd hxt hxb hxz hxe;have HXX:=Lib.hid (show k=m.k∧m.co.length=con∧m.da.length=dan∧m.tl.length=tln∧bz=m.bs∧tz=m.tb∧en=m.en from ⟨hkk,hxc,hxd,hxt,hxb,hxz,hxe⟩);clear hkk hxc hxd hxt hxb hxz hxe;unfold Spv.val at HVA HSM HNM HPL;unfold Bu.val at HPL;unfold Spv.val;simp only at HVA HSM HNM HPL⊢;have HBX0:Hid (Blk (w.alloc (.cells #[.int .i64 k,.string so,.slice nda ndn ndc,.int .u64 en,.slice coa con coc,.slice daa dan dac,.int .u64 bz,.slice tla tln tlc,.int .u64 tz,.slice dfa dfn dfc,.slice fxa fxn fxc] 47)) w.heap.size #[.int .i64 k,.string so,.slice nda ndn ndc,.int .u64 en,.slice coa con coc,.slice daa dan dac,.int .u64 bz,.slice tla tln tlc,.int .u64 tz,.slice dfa dfn dfc,.slice fxa fxn fxc] 47):=Lib.hid (Blk.new _ _ _);have HBE0:Hid (Below w.heap.size w (w.alloc (.cells #[.int .i64 k,.string so,.slice nda ndn ndc,.int .u64 en,.slice coa con coc,.slice daa dan dac,.int .u64 bz,.slice tla tln tlc,.int .u64 tz,.slice dfa dfn dfc,.slice fxa fxn fxc] 47))):=Lib.hid ((Below.refl _ _).alloc (Nat.le_refl _) _);go_enter Tryz.func15,Tryz.ntmps15
 go_wp2_with (refine wpList_load_row rfl 47 _ rfl w.heap.size rfl _ _ (0,0) _ HBX0.out Tryz.underlying47 rfl (by kernel_rfl) ?_);refine (HVA.out _ HBE0.out).mono ?_;rintro r w1 ⟨rfl,hb1⟩;have HBX1:=Lib.hid (HBX0.out.later hb1);have HBE1:=Lib.hid (HBE0.out.trans (hb1.mono HBE0.out.size));clear hb1 HBX0 HBE0 HVA;cases hv:validN m with
 | false=>
   go_wp2_with fail;go_ret2;rw [build_no hv];exact BuildOwn.none HBE1.out
 | true=>
   go_wp2_with (refine wpList_load_row rfl 47 _ rfl w.heap.size rfl _ _ (0,0) _ HBX1.out Tryz.underlying47 rfl (by kernel_rfl) ?_);refine (HSM.out _ HBE1.out).mono ?_;rintro r w2 ⟨rfl,hb2⟩;have HBX2:=Lib.hid (HBX1.out.later hb2);have HBE2:=Lib.hid (HBE1.out.trans (hb2.mono HBE1.out.size));clear hb2 HBX1 HBE1 HSM;cases hs:smallN m with
   | false=>
     go_wp2_with fail;go_ret2;rw [build_great hv hs];exact BuildOwn.none HBE2.out
   | true=>
     go_wp2_with (refine wpList_load_row rfl 47 _ rfl w.heap.size rfl _ _ (0,0) _ HBX2.out Tryz.underlying47 rfl (by kernel_rfl) ?_);refine (HNM.out _ HBE2.out).mono ?_;rintro r w3 ⟨⟨u,rfl,ho⟩,hb3⟩;obtain ⟨la,lc,rfl,hle,hcm⟩:=row_slice ho;have HBX3:=Lib.hid (HBX2.out.later hb3);have HBE3:=Lib.hid (HBE2.out.trans (hb3.mono HBE2.out.size));have HLS:=Lib.hid (Strs.own ho);have hll:(listB m).length≤2001:=by rw [HLL.out];omega
     clear ho hb3 HBX2 HBE2 HNM;go_wp2_with fail;cases hc:cleanB (listB m) with
     | false=>
       have hcl:=clean_or (listB m);rcases hcl with hcl | ⟨i,kk,hi,hj,hz⟩
       ·rw [(cleanB_iff _).2 hcl] at hc;cases hc
       ·refine (build_arg _ _ _ _ _ _ _ _ HLS.out (by omega) hi hj hz).mono ?_;rintro r w4 ⟨rfl,rfl⟩;go_wp2_with fail;go_ret2;rw [build_dirty hv hs hc];exact BuildOwn.none HBE3.out
     | true=>
       refine (build_any _ _ _ _ _ _ HLS.out (Nat.le_refl _) (by omega) HN3.out ((cleanB_iff _).1 hc)).mono ?_;rintro r w4 ⟨hb4,⟨ht,rfl⟩ | ⟨ht,ta,tc,pa,pc,rfl,hot,hop⟩⟩
       ·have HBE4:=Lib.hid (HBE3.out.trans (hb4.mono HBE3.out.size));go_wp2_with fail;go_ret2;rw [build_long hv hs hc ht];exact BuildOwn.none HBE4.out
       ·have HBX4:=Lib.hid (HBX3.out.later hb4);have HBE4:=Lib.hid (HBE3.out.trans (hb4.mono HBE3.out.size));have hmb:=HMB.out hv hs ht;obtain ⟨pb,rfl⟩:=own_ptr hop (by rw [HLL.out];omega);have hkt:=own_n hot;have hkp:=own_n hop;have HNP:Hid (Nps w4 w4.heap.size m ta tc pb (listB m).length pc):=Lib.hid ⟨Bys.own (tab_bd _ _) hot,⟨hkt.2.1,hkt.2.2⟩,Nus.own (out_mem hmb) hop,⟨hkp.2.1,hkp.2.2⟩,HLL.out⟩;obtain ⟨pn,hpn⟩:∃pn,pn=if pc=1 then 0 else 0+1:=⟨_,rfl⟩
        obtain ⟨pd,hpd⟩:∃pd,pd=if pc=1+m.nd.length then 0 else 0+(1+m.nd.length):=⟨_,rfl⟩
        have HMB2:=Lib.hid hmb;have HPN:=Lib.hid hpn;have HPD:=Lib.hid hpd;clear hb4 hot hop HBX3 HBE3 hmb hpn hpd hkt hkp hle hcm;go_wp2_with (refine wpList_load_row rfl 47 _ rfl w.heap.size rfl _ _ (0,0) _ HBX4.out Tryz.underlying47 rfl (by kernel_rfl) ?_);refine (HPL.out _ HBE4.out _ _ _ _ _ _ _ HNP.out HMB2.out HPN.out HPD.out).mono ?_;rintro r w5 ⟨rfl,hb5⟩;obtain ⟨w6,hw6⟩:∃q,(w5.alloc (.cells #[.int .i64 0,.string ⟨#[]⟩,.slice none 0 0,.int .u64 0,.slice none 0 0,.slice none 0 0,.int .u64 0,.slice none 0 0,.int .u64 0,.slice none 0 0,.slice none 0 0,.slice none 0 0,.slice none 0 0,.slice none 0 0,.int .u64 0,.int .u64 0,.int .u64 0,.int .u64 0,.int .u64 0,.int .u64 0,.int .u64 0,.int .u64 0,.int .u64 0,.int .u64 0,.int .u64 0,.int .u64 0] 84)).setRow w5.heap.size #[.int .i64 k,.string so,.slice nda ndn ndc,.int .u64 en,.slice coa con coc,.slice daa dan dac,.int .u64 bz,.slice tla tln tlc,.int .u64 tz,.slice dfa dfn dfc,.slice fxa fxn fxc,.slice ta (tabB m).length tc,.slice (some ⟨pb,pd,none⟩) ((listB m).length-(1+m.nd.length)) (pc-(1+m.nd.length)),.slice (some ⟨pb,pn,none⟩) m.nd.length (pc-1),.int .u64 (biB m).v0,.int .u64 (biB m).v1,.int .u64 (biB m).v2,.int .u64 (biB m).v3,.int .u64 (biB m).v4,.int .u64 (biB m).v5,.int .u64 (biB m).v6,.int .u64 (biB m).dy,.int .u64 (biB m).fr,.int .u64 (biB m).cp,.int .u64 (biB m).dp,.int .u64 (biB m).tp]=q:=⟨_,rfl⟩
        have HNW:Hid (Blk (w5.alloc (.cells #[.int .i64 0,.string ⟨#[]⟩,.slice none 0 0,.int .u64 0,.slice none 0 0,.slice none 0 0,.int .u64 0,.slice none 0 0,.int .u64 0,.slice none 0 0,.slice none 0 0,.slice none 0 0,.slice none 0 0,.slice none 0 0,.int .u64 0,.int .u64 0,.int .u64 0,.int .u64 0,.int .u64 0,.int .u64 0,.int .u64 0,.int .u64 0,.int .u64 0,.int .u64 0,.int .u64 0,.int .u64 0] 84)) w5.heap.size #[.int .i64 0,.string ⟨#[]⟩,.slice none 0 0,.int .u64 0,.slice none 0 0,.slice none 0 0,.int .u64 0,.slice none 0 0,.int .u64 0,.slice none 0 0,.slice none 0 0,.slice none 0 0,.slice none 0 0,.slice none 0 0,.int .u64 0,.int .u64 0,.int .u64 0,.int .u64 0,.int .u64 0,.int .u64 0,.int .u64 0,.int .u64 0,.int .u64 0,.int .u64 0,.int .u64 0,.int .u64 0] 84):=Lib.hid (Blk.new _ _ _);have HBX6:Hid (Blk w6 w5.heap.size #[.int .i64 k,.string so,.slice nda ndn ndc,.int .u64 en,.slice coa con coc,.slice daa dan dac,.int .u64 bz,.slice tla tln tlc,.int .u64 tz,.slice dfa dfn dfc,.slice fxa fxn fxc,.slice ta (tabB m).length tc,.slice (some ⟨pb,pd,none⟩) ((listB m).length-(1+m.nd.length)) (pc-(1+m.nd.length)),.slice (some ⟨pb,pn,none⟩) m.nd.length (pc-1),.int .u64 (biB m).v0,.int .u64 (biB m).v1,.int .u64 (biB m).v2,.int .u64 (biB m).v3,.int .u64 (biB m).v4,.int .u64 (biB m).v5,.int .u64 (biB m).v6,.int .u64 (biB m).dy,.int .u64 (biB m).fr,.int .u64 (biB m).cp,.int .u64 (biB m).dp,.int .u64 (biB m).tp] 84):=Lib.hid (by rw [←hw6];exact setRow_heap _ _ _ _ _ _ HNW.out);have HB56:Hid (Below w5.heap.size w5 w6):=Lib.hid (by rw [←hw6];exact below_setRow ((Below.refl _ _).alloc (Nat.le_refl _) _) (Nat.le_refl _) _);have HBE6:=Lib.hid (HBE4.out.trans ((hb5.trans (HB56.out.mono hb5.size)).mono HBE4.out.size));have HB46:=Lib.hid (hb5.trans (HB56.out.mono hb5.size));have HW6:=Lib.hid hw6;clear hw6 hb5;go_wp2_with (first | (refine wpList_alloc_eq rfl 84 rfl #[.int .i64 0,.string ⟨#[]⟩,.slice none 0 0,.int .u64 0,.slice none 0 0,.slice none 0 0,.int .u64 0,.slice none 0 0,.int .u64 0,.slice none 0 0,.slice none 0 0,.slice none 0 0,.slice none 0 0,.slice none 0 0,.int .u64 0,.int .u64 0,.int .u64 0,.int .u64 0,.int .u64 0,.int .u64 0,.int .u64 0,.int .u64 0,.int .u64 0,.int .u64 0,.int .u64 0,.int .u64 0] (by kernel_rfl) ?_) | (refine wpList_store_row rfl 84 _ _ rfl w5.heap.size #[.int .i64 k,.string so,.slice nda ndn ndc,.int .u64 en,.slice coa con coc,.slice daa dan dac,.int .u64 bz,.slice tla tln tlc,.int .u64 tz,.slice dfa dfn dfc,.slice fxa fxn fxc,.slice ta (tabB m).length tc,.slice (some ⟨pb,pd,none⟩) ((listB m).length-(1+m.nd.length)) (pc-(1+m.nd.length)),.slice (some ⟨pb,pn,none⟩) m.nd.length (pc-1),.int .u64 (biB m).v0,.int .u64 (biB m).v1,.int .u64 (biB m).v2,.int .u64 (biB m).v3,.int .u64 (biB m).v4,.int .u64 (biB m).v5,.int .u64 (biB m).v6,.int .u64 (biB m).dy,.int .u64 (biB m).fr,.int .u64 (biB m).cp,.int .u64 (biB m).dp,.int .u64 (biB m).tp] rfl rfl 84 _ HNW.out (by kernel_rfl) rfl (by kernel_rfl) ?_;rw [HW6.out]) | (refine wpList_load_row rfl 84 _ rfl w5.heap.size rfl _ _ (0,0) _ HBX6.out Tryz.underlying84 rfl (by kernel_rfl) ?_));have hbu:=HBU.out w4 w6 HBE4.out HB46.out ta tc pb (listB m).length pc pd pn HNP.out HMB2.out HPN.out HPD.out;have hmb:=HMB2.out;obtain ⟨x1,x2,x3,x4,x5,x6,x7⟩:=HXX.out;have hbo:BuOf (⟨⟨k,so,⟨nda,ndn,ndc⟩,en,⟨coa,con,coc⟩,⟨daa,dan,dac⟩,bz,⟨tla,tln,tlc⟩,tz,⟨dfa,dfn,dfc⟩,⟨fxa,fxn,fxc⟩⟩,⟨ta,(tabB m).length,tc⟩,⟨some ⟨pb,pd,none⟩,(listB m).length-(1+m.nd.length),pc-(1+m.nd.length)⟩,⟨some ⟨pb,pn,none⟩,m.nd.length,pc-1⟩,biB m⟩:Bu) m:=⟨rfl,x2.symm,x3.symm,x4.symm,x5,x6,x7⟩
        have hen:=end9_any (⟨⟨k,so,⟨nda,ndn,ndc⟩,en,⟨coa,con,coc⟩,⟨daa,dan,dac⟩,bz,⟨tla,tln,tlc⟩,tz,⟨dfa,dfn,dfc⟩,⟨fxa,fxn,fxc⟩⟩,⟨ta,(tabB m).length,tc⟩,⟨some ⟨pb,pd,none⟩,(listB m).length-(1+m.nd.length),pc-(1+m.nd.length)⟩,⟨some ⟨pb,pn,none⟩,m.nd.length,pc-1⟩,biB m⟩:Bu) w6 hbu.ok;rw [end_eq hmb hbo] at hen;unfold Bu.val at hen;simp only at hen;obtain ⟨n,hn⟩:∃n,(fileB m).length=n:=⟨_,rfl⟩
        rw [hn] at hen;have HEN:=Lib.hid hen;have HNN:=Lib.hid hn;have HBO:=Lib.hid hbo;have HBU6:=Lib.hid hbu;have HBF:=Lib.hid (build_file hv hs hc ht);clear hbu hmb x1 x2 x3 x4 x5 x6 x7 hbo hen hn HXX HPL HBU HMB HB46 HB56 HNW HBX4 HNP HPN HPD hv hs hc ht hll HLL HLS HN3 HW6;refine HEN.out.mono ?_;rintro r w7 ⟨rfl,hb7⟩;have HBE7:=Lib.hid (HBE6.out.trans (hb7.mono HBE6.out.size));have HBX7:=Lib.hid (HBX6.out.later hb7);have HBU7:=Lib.hid ((HBU6.out.below hb7).more hb7.size);clear hb7 HBX6 HBE6 HEN HBU6;by_cases hg:65536<n
        ·have hgi:(65536:Int)<n:=by omega
         have HG:=Lib.hid hg;clear hg;go_wp2_with fail;go_ret2;rw [HBF.out,HNN.out,if_pos HG.out];exact BuildOwn.none HBE7.out
        ·have hgi:¬(65536:Int)<n:=by omega
         have HG:=Lib.hid hg;clear hg;go_wp2_with (refine wpList_load_row rfl 84 _ rfl w5.heap.size rfl _ _ (0,0) _ HBX7.out Tryz.underlying84 rfl (by kernel_rfl) ?_);have hmb:=HMB2.out;have hbo:=HBO.out;have p:=hmb.places;have sm:=p.small hmb;have p1:=p.tl;have p2:=p.da;have p4:=p.co;have p5:=p.en;have p6:=p.re;have p7:=p.sy;have p8:=p.sn;have p9:=p.rn;have p10:=p.st;have p11:=p.sz;have p12:=p.dy;have p13:=p.c;obtain ⟨Dy,hDy⟩:∃d:Nat,dynB m=d:=⟨(dynB m).toNat,by omega⟩
         obtain ⟨V1,hV1⟩:∃d:Nat,strB m=d:=⟨(strB m).toNat,by omega⟩
         obtain ⟨V3,hV3⟩:∃d:Nat,symB m=d:=⟨(symB m).toNat,by omega⟩
         obtain ⟨V5,hV5⟩:∃d:Nat,relB m=d:=⟨(relB m).toNat,by omega⟩
         obtain ⟨Cp,hCp⟩:∃d:Nat,codeB m=d:=⟨(codeB m).toNat,by omega⟩
         obtain ⟨Dp,hDp⟩:∃d:Nat,dataB m=d:=⟨(dataB m).toNat,by omega⟩
         obtain ⟨Tp,hTp⟩:∃d:Nat,tlsB m=d:=⟨(tlsB m).toNat,by omega⟩
         have hsy:=symsB_eq (b:=⟨m,tabB m,(outB m).drop (1+m.nd.length),needO m,biB m⟩) hmb rfl rfl rfl;have hoy:=symsN_ok (b:=⟨m,tabB m,(outB m).drop (1+m.nd.length),needO m,biB m⟩) hmb rfl rfl rfl;have hre:=rels_eq (b:=⟨m,tabB m,(outB m).drop (1+m.nd.length),needO m,biB m⟩) hmb rfl rfl;have hsg:=segs_eq hmb hbo;have hsl:=segsB_len m;obtain ⟨g0,g1,g2,g3,g4,g5,g6,g7,g8,g9,g10,g11,g12,g13⟩:=parts_fit hmb n Dy V1 V3 V5 Cp Dp Tp HNN.out hDy hV1 hV3 hV5 hCp hDp hTp _ hsy;have hla:=layAll_eq hmb n Dy V1 V3 V5 Cp Dp Tp HNN.out hDy hV1 hV3 hV5 hCp hDp hTp _ hsy;have hfi:=file9_any w7.heap.size (⟨⟨k,so,⟨nda,ndn,ndc⟩,en,⟨coa,con,coc⟩,⟨daa,dan,dac⟩,bz,⟨tla,tln,tlc⟩,tz,⟨dfa,dfn,dfc⟩,⟨fxa,fxn,fxc⟩⟩,⟨ta,(tabB m).length,tc⟩,⟨some ⟨pb,pd,none⟩,(listB m).length-(1+m.nd.length),pc-(1+m.nd.length)⟩,⟨some ⟨pb,pn,none⟩,m.nd.length,pc-1⟩,biB m⟩:Bu) ⟨m,tabB m,(outB m).drop (1+m.nd.length),needO m,biB m⟩ w7 HBU7.out (Nat.le_refl _) (by have:=hmb.k;rw [←HBU7.out.s.k] at this;exact this) n Dy V1 V3 V5 Cp Dp Tp (by rw [end_eq hmb hbo,HNN.out]) hDy hV1 hV3 hV5 hCp hDp hTp (by omega)
          (by show (needO m).length≤1000;rw [needO_len];exact l1) (by show m.df.length≤999999;omega) (by show m.fx.length≤1000000;omega) (by show m.df.length≤((outB m).drop (1+m.nd.length)).length;rw [List.length_drop,outB_len];omega)
          g0 (by rw [hsg];exact g1) g2 g3 g4 (by rw [hre];exact g5) g6 g7 g8 (by omega) (by omega) (by omega) (by omega) (by omega) (by rw [hsg];exact segs_ok hmb) hoy (by rw [hre];exact relsN_ok hmb)
         rw [hsg,entry_eq hbo,hre,hsl] at hfi;have hkm:k=m.k:=HBU7.out.s.k;unfold Bu.val at hfi;simp only at hfi;rw [hkm] at hfi⊢;rw [show [(biB m).v0,(biB m).v1,(biB m).v2,(biB m).v3,(biB m).v4,(biB m).v5,(biB m).v6]=vB m from rfl,hla] at hfi;have HFI:=Lib.hid hfi;clear hfi hla hkm hsy hoy hre hsg hsl g0 g1 g2 g3 g4 g5 g6 g7 g8 g9 g10 g11 g12 g13 hmb hbo p sm p1 p2 p4 p5 p6 p7 p8 p9 p10 p11 p12 p13 hDy hV1 hV3 hV5 hCp hDp hTp;refine HFI.out.mono ?_;rintro r w8 ⟨⟨u,rfl,ho⟩,hb8⟩;have HO:=Lib.hid ho;have HBE8:=Lib.hid (HBE7.out.trans (hb8.mono HBE7.out.size));clear ho hb8;go_wp2_with fail;go_ret2;rw [HBF.out,HNN.out,if_neg HG.out];exact ⟨u,rfl,by rw [show ((0,fileB m):Int×List Int).2.length=n from HNN.out];exact own_base9 HO.out HBE7.out.size,HBE8.out⟩
theorem ParseOwn.post {Z:Int×Im} {w w':World} {e:Ending} (h:ParseOwn Z w e w'):ParsePost Z w e w':=by
 obtain ⟨⟨x,h1,h2,h3,h4⟩,h5⟩:=h;exact ⟨⟨x,h1,h2⟩,h5⟩
theorem iparse_any (B:Nat) (a:Option Addr) (len cap:Nat) (zs:List Int) (w:World) (hb:Bys w B a len zs) (hB:B≤w.heap.size) (hcap:len≤cap) (hcm:(cap:Int)≤9223372036854775807) (hnil:a=none→cap=0) :
 Calls Tryz.prog 10 #[.slice a len cap] w (ParsePost (parseI zs) w):=
 (iparse9_any B a len cap zs w hb hB hcap hcm hnil).mono fun _ _ h=>h.post
def sp3:Sp:=⟨3,.empty,[],0,[],[],0,[],0,[],[]⟩
theorem sp3_e:(buildI sp3).1=0:=by kernel_rfl
theorem sp3_n:(buildI sp3).2.length=232:=by kernel_rfl
theorem sp3_p:(parseI (buildI sp3).2).1=0:=by kernel_rfl
theorem sp3_s:(parseI (buildI sp3).2).2.sg.length=2:=by kernel_rfl
theorem nil_p:(parseI []).1=10:=by kernel_rfl
theorem sp3_b:((buildI sp3).2.all fun n=>decide (0≤n∧n≤255))=true:=by kernel_rfl
def spv3:Spv:=⟨3,.empty,Sh.zero,0,Sh.zero,Sh.zero,0,Sh.zero,0,Sh.zero,Sh.zero⟩
theorem Bys.nil9 (w:World) (B:Nat) (a:Option Addr):Bys w B a 0 []:=⟨rfl,fun n h=>absurd h List.not_mem_nil,fun h=>absurd h (Nat.lt_irrefl _)⟩
theorem spv3_is (w:World):spv3.Is w 0 sp3:=
 ⟨rfl,rfl,⟨rfl,fun h=>absurd h (Nat.lt_irrefl _)⟩,rfl,Bys.nil9 _ _ _,Bys.nil9 _ _ _,rfl,Bys.nil9 _ _ _,rfl,
  ⟨rfl,fun n h=>absurd h List.not_mem_nil,fun h=>absurd h (Nat.lt_irrefl _)⟩,⟨rfl,fun n h=>absurd h List.not_mem_nil,fun h=>absurd h (Nat.lt_irrefl _)⟩,Sh.zero_ok,Sh.zero_ok,Sh.zero_ok,Sh.zero_ok,Sh.zero_ok,Sh.zero_ok,by decide,by decide,by decide,by decide⟩
theorem awake9_any (w:World) :
 Calls Tryz.prog 9 #[] w fun e w'=>e=.returned (.bool true)∧Below w.heap.size w w':=by
 have hbd:=build9_any 0 spv3 sp3 w (spv3_is w) (Nat.zero_le _) (fun _=>rfl) (by decide) (by decide) (by decide) (by decide) (by decide) (by decide) (by decide) (fun s h=>by cases h);have hz1:=sp3_p;have hz2:=sp3_s;have hz3:=sp3_b;have hz4:=sp3_n;have hz5:=sp3_e;generalize buildI sp3=Y at hbd hz1 hz2 hz3 hz4 hz5;obtain ⟨ye,ys⟩:=Y;simp only at hz1 hz2 hz3 hz4 hz5;subst hz5;have HBD:=Lib.hid hbd;have HYB:Hid (∀n∈ys,0≤n∧n≤255):=Lib.hid (fun n h=>by have:=List.all_eq_true.1 hz3 n h;rwa [decide_eq_true_eq] at this);have HYN:=Lib.hid hz4;have HZ2:=Lib.hid hz2;have HZ1:=Lib.hid hz1;clear hbd hz1 hz2 hz3 hz4;unfold spv3 Spv.val Sh.zero at HBD;simp only at HBD;have HPN:Hid (∀w1,Calls Tryz.prog 10 #[.slice none 0 0] w1 (ParsePost (parseI []) w1)):=Lib.hid (fun w1=>iparse_any 0 none 0 0 [] w1 ⟨rfl,fun n h=>(by cases h),fun h=>absurd h (Nat.lt_irrefl _)⟩ (Nat.zero_le _) (Nat.le_refl _) (by decide) (fun _=>rfl));have hnp:=nil_p;generalize parseI []=N at HPN hnp;obtain ⟨ne,nm⟩:=N;simp only at hnp;subst hnp;go_enter Tryz.func9,Tryz.ntmps9
 go_wp2_with fail;refine HBD.out.mono ?_;rintro r w1 ⟨u,rfl,ho,hb1⟩;simp only at ho;rw [HYN.out] at ho;obtain ⟨ua,uc,rfl,hle,hcm⟩:=row_slice ho;obtain ⟨ug,rfl⟩:=own_ptr ho (by decide);have HB1:=Lib.hid hb1;have hpa:=iparse_any w1.heap.size (some ⟨ug,0,none⟩) 232 uc ys w1 (Bys.own HYB.out ho) (Nat.le_refl _) hle hcm (fun e=>by cases e);generalize parseI ys=Z at hpa HZ1 HZ2;obtain ⟨te,m⟩:=Z;obtain rfl:te=0:=HZ1.out;have HPA:=Lib.hid hpa;clear ho hb1 hpa HZ1 HBD HYB HYN hle hcm;go_wp2_with fail;refine HPA.out.mono ?_;rintro r w2 ⟨⟨x,rfl,hx⟩,hb2⟩;have HSN:Hid (x.sg.n=2):=Lib.hid (by rw [←hx.sg.hl];exact HZ2.out);have HB2:=Lib.hid (HB1.out.trans (hb2.mono HB1.out.size));clear hx hb2 HPA HB1 HZ2;unfold Iv.val;try simp only
 have HBK:Hid (Blk (w2.alloc (.cells #[.int .i64 x.k,.int .u64 x.e,.int .u64 x.s,.int .i64 x.c,.slice x.sg.a x.sg.n x.sg.c,.string x.so,.slice x.nd.a x.nd.n x.nd.c,.slice x.nm.a x.nm.n x.nm.c,.slice x.sy.a x.sy.n x.sy.c,.slice x.rl.a x.rl.n x.rl.c,.slice x.zs.a x.zs.n x.zs.c] 32)) w2.heap.size #[.int .i64 x.k,.int .u64 x.e,.int .u64 x.s,.int .i64 x.c,.slice x.sg.a x.sg.n x.sg.c,.string x.so,.slice x.nd.a x.nd.n x.nd.c,.slice x.nm.a x.nm.n x.nm.c,.slice x.sy.a x.sy.n x.sy.c,.slice x.rl.a x.rl.n x.rl.c,.slice x.zs.a x.zs.n x.zs.c] 32):=Lib.hid (Blk.new _ _ _);have HB3:Hid (Below w.heap.size w (w2.alloc (.cells #[.int .i64 x.k,.int .u64 x.e,.int .u64 x.s,.int .i64 x.c,.slice x.sg.a x.sg.n x.sg.c,.string x.so,.slice x.nd.a x.nd.n x.nd.c,.slice x.nm.a x.nm.n x.nm.c,.slice x.sy.a x.sy.n x.sy.c,.slice x.rl.a x.rl.n x.rl.c,.slice x.zs.a x.zs.n x.zs.c] 32))):=Lib.hid (HB2.out.alloc HB2.out.size _);go_wp2_with fail;refine (HPN.out _).mono ?_;rintro r w3 ⟨⟨y,rfl,-⟩,hb3⟩;unfold Iv.val;try simp only
 have HBK3:=Lib.hid (HBK.out.later hb3);have HB4:=Lib.hid (HB3.out.trans (hb3.mono HB3.out.size));have hlt:w2.heap.size<w3.heap.size:=HBK3.out.lt;have q4:w3.cell? ⟨w2.heap.size,4,none⟩=some (.slice x.sg.a x.sg.n x.sg.c):=HBK3.out.cell 4;have HBF:Hid (∀o,Below w.heap.size w (w3.alloc o)):=Lib.hid (fun o=>HB4.out.alloc HB4.out.size o);clear hb3;rw [HSN.out] at q4;go_wp2_with fail;go_ret;exact ⟨rfl,HBF.out _⟩
structure Few (m:Sp):Prop where
 co:m.co.length≤3000
 da:m.da.length≤3000
 tl:m.tl.length≤3000
 df:m.df.length≤30
 fx:m.fx.length≤30
 nd:m.nd.length≤20
 so:m.so.size≤300
 dn:∀d∈m.df,d.nm.size≤300
 nn:∀s∈m.nd,s.size≤300
def FewPost (m:Sp) (w:World) (e:Ending) (w':World):Prop:=(∃b,e=.returned (.bool b)∧(b=true→Few m))∧Below w.heap.size w w'
theorem all_of {α:Type} {L:List α} {n:Nat} {z:α} {P:α→Prop} (e:L.length=n) (h:∀j,j<n→P (L.getD j z)):∀d∈L,P d:=by
 intro d hd;obtain ⟨j,hj,rfl⟩:=List.getElem_of_mem hd;have:=h j (by omega)
 rwa [List.getD_eq_getElem?_getD,List.getElem?_eq_getElem hj] at this
theorem FewPost.no {m:Sp} {w w':World} (h:Below w.heap.size w w'):FewPost m w (.returned (.bool false)) w':=⟨⟨false,rfl,fun e=>by cases e⟩,h⟩
theorem few_any (B:Nat) (x:Spv) (m:Sp) (w:World) (h:x.Is w B m) (hB:B≤w.heap.size) (hso:m.so.size≤maxLen) (hns:∀s∈m.nd,s.size≤maxLen) :
 Calls Tryz.prog 14 #[x.val] w (FewPost m w):=by
 have HND:=Lib.hid h.nd;have HDF:=Lib.hid h.df;have hse:=h.so;have hnl:=h.nd.1;have hcl:=h.co.1;have hdl:=h.da.1;have htl:=h.tl.1;have hfl:=h.df.hl;have hxl:=h.fx.hl;have ond:=h.ond;have oco:=h.oco;have oda:=h.oda;have otl:=h.otl;have odf:=h.odf;have ofx:=h.ofx;obtain ⟨k,so,⟨nda,ndn,ndc⟩,en,⟨coa,con,coc⟩,⟨daa,dan,dac⟩,bz,⟨tla,tln,tlc⟩,tz,⟨dfa,dfn,dfc⟩,⟨fxa,fxn,fxc⟩⟩:=x;simp only at HND HDF hse hnl hcl hdl htl hfl hxl ond oco oda otl odf ofx;subst hse;have b1:=ond.le;have b2:=ond.max;have b3:=oco.le;have b4:=oco.max;have b5:=oda.le;have b6:=oda.max;have b7:=otl.le;have b8:=otl.max;have b9:=odf.le;have b10:=odf.max;have b11:=ofx.le;have b12:=ofx.max;simp only at b1 b2 b3 b4 b5 b6 b7 b8 b9 b10 b11 b12;have i1:(ndn:Int)≤9223372036854775807:=by omega
 have i2:(con:Int)≤9223372036854775807:=by omega
 have i3:(dan:Int)≤9223372036854775807:=by omega
 have i4:(tln:Int)≤9223372036854775807:=by omega
 have i5:(dfn:Int)≤9223372036854775807:=by omega
 have i6:(fxn:Int)≤9223372036854775807:=by omega
 have i7:(m.so.size:Int)≤9223372036854775807:=by unfold maxLen at hso;omega
 have HNS:=Lib.hid hns;have HLN:=Lib.hid (show m.nd.length=ndn∧m.co.length=con∧m.da.length=dan∧m.tl.length=tln∧m.df.length=dfn∧m.fx.length=fxn from ⟨hnl,hcl,hdl,htl,hfl,hxl⟩);clear h ond oco oda otl odf ofx b1 b2 b3 b4 b5 b6 b7 b8 b9 b10 b11 b12 hnl hcl hdl htl hfl hxl hso hns;unfold Spv.val;simp only
 have HBX:Hid (Blk (w.alloc (.cells #[.int .i64 k,.string m.so,.slice nda ndn ndc,.int .u64 en,.slice coa con coc,.slice daa dan dac,.int .u64 bz,.slice tla tln tlc,.int .u64 tz,.slice dfa dfn dfc,.slice fxa fxn fxc] 47)) w.heap.size #[.int .i64 k,.string m.so,.slice nda ndn ndc,.int .u64 en,.slice coa con coc,.slice daa dan dac,.int .u64 bz,.slice tla tln tlc,.int .u64 tz,.slice dfa dfn dfc,.slice fxa fxn fxc] 47):=Lib.hid (Blk.new _ _ _);have HBE:Hid (Below w.heap.size w (w.alloc (.cells #[.int .i64 k,.string m.so,.slice nda ndn ndc,.int .u64 en,.slice coa con coc,.slice daa dan dac,.int .u64 bz,.slice tla tln tlc,.int .u64 tz,.slice dfa dfn dfc,.slice fxa fxn fxc] 47))):=Lib.hid ((Below.refl _ _).alloc (Nat.le_refl _) _);by_cases t0:3000<con
 ·have j0:(3000:Int)<con:=by omega
  go_enter Tryz.func14,Tryz.ntmps14
  go_wp2;go_ret;exact FewPost.no HBE.out
 have j0:(con:Int)≤3000:=by omega
 by_cases t1:3000<dan
 ·have j1:(3000:Int)<dan:=by omega
  go_enter Tryz.func14,Tryz.ntmps14
  go_wp2;go_ret;exact FewPost.no HBE.out
 have j1:(dan:Int)≤3000:=by omega
 by_cases t2:3000<tln
 ·have j2:(3000:Int)<tln:=by omega
  go_enter Tryz.func14,Tryz.ntmps14
  go_wp2;go_ret;exact FewPost.no HBE.out
 have j2:(tln:Int)≤3000:=by omega
 by_cases t3:30<dfn
 ·have j3:(30:Int)<dfn:=by omega
  go_enter Tryz.func14,Tryz.ntmps14
  go_wp2;go_ret;exact FewPost.no HBE.out
 have j3:(dfn:Int)≤30:=by omega
 by_cases t4:30<fxn
 ·have j4:(30:Int)<fxn:=by omega
  go_enter Tryz.func14,Tryz.ntmps14
  go_wp2;go_ret;exact FewPost.no HBE.out
 have j4:(fxn:Int)≤30:=by omega
 by_cases t5:20<ndn
 ·have j5:(20:Int)<ndn:=by omega
  go_enter Tryz.func14,Tryz.ntmps14
  go_wp2;go_ret;exact FewPost.no HBE.out
 have j5:(ndn:Int)≤20:=by omega
 by_cases t6:300<m.so.size
 ·have j6:(300:Int)<m.so.size:=by omega
  go_enter Tryz.func14,Tryz.ntmps14
  go_wp2;go_ret;exact FewPost.no HBE.out
 have j6:(m.so.size:Int)≤300:=by omega
 go_enter Tryz.func14,Tryz.ntmps14
 go_wp2;go_loopw [3] (fun i wr=>∃q:Nat,q≤dfn∧i=.int .i64 q∧(∀j,j<q→(m.df.getD j Df.zero).nm.size≤300)∧Below w.heap.size w wr∧Blk wr w.heap.size #[.int .i64 k,.string m.so,.slice nda ndn ndc,.int .u64 en,.slice coa con coc,.slice daa dan dac,.int .u64 bz,.slice tla tln tlc,.int .u64 tz,.slice dfa dfn dfc,.slice fxa fxn fxc] 47) (fun i _=>dfn-(intOf i).toNat)
 case atStart=>exact ⟨0,Nat.zero_le _,rfl,fun j hj=>absurd hj (by omega),HBE.out,HBX.out⟩
 case round=>
  obtain ⟨q,hq,rfl,hno,hbel,hblk⟩:=hrel;have HB:=Lib.hid hbel;have HK:=Lib.hid hblk;have hsz:=hbel.size;have hlw:=hblk.lt;have q9:wr.cell? ⟨w.heap.size,9,none⟩=some (.slice dfa dfn dfc):=hblk.cell 9;have q2:wr.cell? ⟨w.heap.size,2,none⟩=some (.slice nda ndn ndc):=hblk.cell 2;by_cases hlt:q<dfn
  ·obtain ⟨b,off,hdfa,hbB,hcell⟩:=HDF.out.hc (by omega);subst hdfa;have hbw0:b<w.heap.size:=Nat.lt_of_lt_of_le hbB hB;obtain ⟨c0,c1,c2,c3⟩:=(hcell q hlt).below hbel hbw0;have hbw:b<wr.heap.size:=by omega
   have hqi:(q:Int)<dfn:=by omega
   have HNX:=Lib.hid (fun h=>no_upto (P:=fun j=>(m.df.getD j Df.zero).nm.size≤300) hno h);generalize m.df.getD q Df.zero=d at c0 c1 c2 c3 HNX;obtain ⟨dn,dw,dof,dk⟩:=d;simp only at c0 c1 c2 c3;clear hcell hno hbel hblk c1 c2 c3;by_cases hn:300<dn.size
   ·have hni:(300:Int)<dn.size:=by omega
    go_wp2;go_ret;exact FewPost.no HB.out
   ·have hni:(dn.size:Int)≤300:=by omega
    have HN:=Lib.hid (HNX.out (by show dn.size≤300;omega));go_wp2;go_roundw
    case rel=>exact ⟨q+1,by omega,by go_num,HN.out,HB.out,HK.out⟩
    case measure=>(simp [intOf]<;>omega)
  ·obtain rfl:q=dfn:=by omega
   have HD:=Lib.hid hno;clear hno hlt hbel hblk;go_wp2;go_loopw [4] (fun i wz=>∃z:Nat,z≤ndn∧i=.int .i64 z∧(∀j,j<z→(m.nd.getD j .empty).size≤300)∧Below w.heap.size w wz∧Blk wz w.heap.size #[.int .i64 k,.string m.so,.slice nda ndn ndc,.int .u64 en,.slice coa con coc,.slice daa dan dac,.int .u64 bz,.slice tla tln tlc,.int .u64 tz,.slice dfa q dfc,.slice fxa fxn fxc] 47) (fun i _=>ndn-(intOf i).toNat)
   case atStart=>exact ⟨0,Nat.zero_le _,rfl,fun j hj=>absurd hj (by omega),HB.out,HK.out⟩
   case round=>
    clear q9 q2 hlw hsz HB HK;obtain ⟨z,hz,rfl,hno,hbel,hblk⟩:=hrel;have HB:=Lib.hid hbel;have HK:=Lib.hid hblk;have hsz:=hbel.size;have hlw:=hblk.lt;have q2:wr.cell? ⟨w.heap.size,2,none⟩=some (.slice nda ndn ndc):=hblk.cell 2;by_cases hlt:z<ndn
    ·obtain ⟨b,off,hnda,hbB,hcell⟩:=HND.out.2 (by omega);subst hnda;have hbw0:b<w.heap.size:=Nat.lt_of_lt_of_le hbB hB;have c0:=(hbel.cell (p:=⟨b,off+z,none⟩) hbw0).trans (hcell z hlt);have hbw:b<wr.heap.size:=by omega
     have hzi:(z:Int)<ndn:=by omega
     have HNX:=Lib.hid (fun h=>no_upto (P:=fun j=>(m.nd.getD j .empty).size≤300) hno h);generalize m.nd.getD z .empty=dn at c0 HNX;clear hcell hno hbel hblk;by_cases hn:300<dn.size
     ·have hni:(300:Int)<dn.size:=by omega
      go_wp2;go_ret;exact FewPost.no HB.out
     ·have hni:(dn.size:Int)≤300:=by omega
      have HN:=Lib.hid (HNX.out (by show dn.size≤300;omega));go_wp2;go_roundw
      case rel=>exact ⟨z+1,by omega,by go_num,HN.out,HB.out,HK.out⟩
      case measure=>(simp [intOf]<;>omega)
    ·obtain rfl:z=ndn:=by omega
     have HE:=Lib.hid hno;clear hno hlt hbel hblk;go_wp2;go_ret;refine ⟨⟨true,rfl,fun _=>?_⟩,HB.out⟩;obtain ⟨e1,e2,e3,e4,e5,e6⟩:=HLN.out;exact ⟨by omega,by omega,by omega,by omega,by omega,by omega,by omega,all_of e5 HD.out,all_of e1 HE.out⟩

section
variable {P:Program} {Q:Exit→Act→World→Prop}
end
structure SpvNil (x:Spv):Prop where
 nd:x.nd.a=none→x.nd.c=0
 co:x.co.a=none→x.co.c=0
 da:x.da.a=none→x.da.c=0
 tl:x.tl.a=none→x.tl.c=0



def q0 (m:Sp):List Int:=enc m.k (entryB m) 64 (countB m)
def q1 (m:Sp):List Int:=q0 m++encS ⟨1,4,0,0,endB m,endB m,256⟩
def q2 (m:Sp):List Int:=q1 m++(if hasC m then encS ⟨1,5,codeB m,codeB m,(m.co.length:Int),(m.co.length:Int),256⟩ else [])
def q3 (m:Sp):List Int:=q2 m++(if hasD m then encS ⟨1,6,(if datF m=0 then 0 else dataB m),dataB m,datF m,datF m+m.bs,256⟩ else [])
def q4 (m:Sp):List Int:=q3 m++encS ⟨2,4,dynB m,dynB m,sizeB m,sizeB m,8⟩
def q5 (m:Sp):List Int:=q4 m++(if hasT m then encS ⟨7,4,(if 0<m.tl.length then tlsB m else 0),(if 0<m.tl.length then tlsB m else 0),(m.tl.length:Int),(m.tl.length:Int)+m.tb,8⟩ else [])


theorem may_no {m:Sp} (h:validN m=false):mayI m=1:=by
 unfold mayI;by_cases hk:m.k≠2∧m.k≠3
 ·rw [if_pos hk]
 ·rw [if_neg hk];cases h1:m.df.any badDf with
  | true=>rfl
  | false=>
    cases h2:m.fx.any (badFx m.df.length) with
    | true=>rfl
    | false=>
      exfalso
      have:=(valid_iff m).2 ⟨h1,h2,by omega⟩;rw [h] at this;cases this
theorem may_ok {m:Sp} (h:mayI m=0):validN m=true∧smallN m=true:=by
 cases hv:validN m with
 | false=>rw [may_no hv] at h;cases h
 | true=>
   refine ⟨rfl,?_⟩;cases hs:smallN m with
   | true=>rfl
   | false=>rw [may_small hv,hs] at h;cases h
section
variable {w W0:World} {O:Value→Array Value} {e:TypeId} {bs k n:Nat} {l:Value} {xs ys:List Value} {iL iA iS sL sA:Nat} {L L':Nat→Bool} {y y':Nat→Value} {wx:World}
end



end Go.Proofs.YtclgbdfkdbbinaaGreat
namespace Go.Proofs.YtclgbdfkdbbinaaGreat
open Go.RowKit Go.ChangeShapes Go.WideShapes
theorem Df.one_string:Tryz.prog.cellsOf 9=1:=by kernel_rfl
theorem Df.one_int:Tryz.prog.cellsOf 3=1:=by kernel_rfl
theorem Df.wf_int {n:Int} (h:(Lit.int .i64 n).wf=true):-9223372036854775808≤n∧n≤9223372036854775807:=by
 simpa [Lit.wf,IntKind.min,IntKind.max,IntKind.signed,IntKind.bits] using h
theorem Df.one_uint64:Tryz.prog.cellsOf 24=1:=by kernel_rfl
theorem Df.wf_uint64 {n:Int} (h:(Lit.int .u64 n).wf=true):0≤n∧n≤18446744073709551615:=by
 simpa [Lit.wf,IntKind.min,IntKind.max,IntKind.signed,IntKind.bits] using h
theorem Df.one_bool:Tryz.prog.cellsOf 4=1:=by kernel_rfl
theorem Df.many:Tryz.prog.cellsOf 61=4:=by kernel_rfl
theorem Df.split {cs:List Value} (h:cs.length=4):∃c0 c1 c2 c3,cs=[c0,c1,c2,c3]:=by
 rcases cs with _ | ⟨c0,_ | ⟨c1,_ | ⟨c2,_ | ⟨c3,_ | ⟨c4,cs⟩⟩⟩⟩⟩;all_goals first | exact ⟨_,_,_,_,rfl⟩ | (simp at h;try omega)
section
variable {H:Type} {enc:TypeId×Value→H} {w:World} {base:Nat} {held:Bool}
theorem Df.read {fuel:Nat} {cs:List Value} {x:DataW H×List MemPlace} (h:DataW.trod enc Tryz.prog w base (fun _=>true) held fuel 61 cs=some x):∃s:Df,s.Ok w w.heap.size∧cs=s.cells.toList:=by
 obtain ⟨xs,n,-,-,hlen,hxl,hf⟩:=DataW.trod_struct Tryz.underlying61 h;rw [Df.many] at hlen;obtain ⟨c0,c1,c2,c3,rfl⟩:=Df.split hlen;have hx:∀j,j<4→∃y,xs[j]?=some y:=fun j hj=>⟨_,List.getElem?_eq_getElem (by rw [hxl];exact hj)⟩
 obtain ⟨y0,e0⟩:=hx 0 (by decide);obtain ⟨n0,g0,-,w0⟩:=DataW.trod_string Tryz.underlying9 ((hf 0 _ rfl).trans e0);have k0:List.take (Tryz.prog.cellsOf 9) (List.drop 0 [c0,c1,c2,c3])=[.string n0]:=g0;rw [Df.one_string] at k0;obtain ⟨y1,e1⟩:=hx 1 (by decide);obtain ⟨n1,g1,-,w1⟩:=DataW.trod_int Tryz.underlying3 ((hf 1 _ rfl).trans e1);have k1:List.take (Tryz.prog.cellsOf 3) (List.drop 1 [c0,c1,c2,c3])=[.int .i64 n1]:=g1;rw [Df.one_int] at k1;obtain ⟨y2,e2⟩:=hx 2 (by decide);obtain ⟨n2,g2,-,w2⟩:=DataW.trod_int Tryz.underlying24 ((hf 2 _ rfl).trans e2);have k2:List.take (Tryz.prog.cellsOf 24) (List.drop 2 [c0,c1,c2,c3])=[.int .u64 n2]:=g2;rw [Df.one_uint64] at k2;obtain ⟨y3,e3⟩:=hx 3 (by decide);obtain ⟨n3,g3,-⟩:=DataW.trod_bool Tryz.underlying4 ((hf 3 _ rfl).trans e3);have w3:n3=n3:=rfl;have k3:List.take (Tryz.prog.cellsOf 4) (List.drop 3 [c0,c1,c2,c3])=[.bool n3]:=g3;rw [Df.one_bool] at k3;simp at k0 k1 k2 k3;subst k0 k1 k2 k3;exact ⟨⟨n0,n1,n2,n3⟩,⟨w0,Df.wf_int w1,Df.wf_uint64 w2,w3⟩,rfl⟩
theorem Df.list_of {P:Nat→Df→Prop}:∀(n:Nat),(∀i,i<n→∃s,P i s)→∃L:List Df,L.length=n∧∀i,i<n→P i (L.getD i Df.zero)
 | 0,_=>⟨[],rfl,fun i h=>absurd h (by omega)⟩
 | n+1,h=>by
   obtain ⟨L,hl,hL⟩:=Df.list_of n (fun i hi=>h i (by omega));obtain ⟨s,hs⟩:=h n (by omega);refine ⟨L++[s],by simp [hl],fun i hi=>?_⟩;by_cases e:i=n
   ·subst e;rw [List.getD_eq_getElem?_getD,List.getElem?_append_right (by omega)];simpa [hl] using hs
   ·rw [List.getD_eq_getElem?_getD,List.getElem?_append_left (by omega),←List.getD_eq_getElem?_getD];exact hL i (by omega)
def Df.Is (w:World) (a:Option Addr) (len cap:Nat) (L:List Df):Prop:=
 (a=none∧len=0∧cap=0∧L=[])∨
 ∃x,a=some x∧len≤cap∧cap≤maxLen∧L.length=cap∧∀i,i<cap→(L.getD i Df.zero).Ok w w.heap.size∧∀j,j<4→w.cell? (x.add (i*4+j))=(L.getD i Df.zero).cells[j]?
theorem Df.opens {fuel:Nat} {a:Option Addr} {len cap:Nat} {x:DataW H×List MemPlace} (h:DataW.trod enc Tryz.prog w base (fun _=>true) held fuel 44 (Value.slice a len cap).cells.toList=some x):∃L,Df.Is w a len cap L:=by
 rcases Go.Deep.open_slice Tryz.underlying44 h with ⟨hcs,_⟩ | ⟨a',l,c,m,n,D,Pl,hcs,_,hl,hm,hmm,_,hi⟩
 ·simp [Value.cells] at hcs
  obtain ⟨rfl,rfl,rfl⟩:=hcs;exact ⟨[],.inl ⟨rfl,rfl,rfl,rfl⟩⟩
 ·simp [Value.cells] at hcs
  obtain ⟨rfl,rfl,rfl⟩:=hcs;have hmc:m=cap:=by simpa using hmm
  subst hmc;obtain ⟨L,hL,hLs⟩:=Df.list_of (P:=fun i s=>s.Ok w w.heap.size∧∀j,j<4→w.cell? (a'.add (i*4+j))=s.cells[j]?) m (fun i him=>by
   obtain ⟨cs',hc,ht⟩:=hi i him;obtain ⟨s,hok,rfl⟩:=Df.read ht;obtain ⟨_,_,hat⟩:=World.cells?_some hc;rw [Df.many] at hat;refine ⟨s,hok,fun j hj=>?_⟩;rw [←Go.Deep.add_add,hat j hj];simp)
  exact ⟨L,.inr ⟨a',rfl,hl,hm,hL,hLs⟩⟩
end
theorem Df.Is.sl {w:World} {a:Option Addr} {len cap:Nat} {L:List Df} (h:Df.Is w a len cap L) :
 Df.Sl w w.heap.size a len (L.take len)∧len≤cap∧(cap:Int)≤9223372036854775807:=by
 rcases h with ⟨rfl,rfl,rfl,rfl⟩ | ⟨⟨b,off,spot⟩,rfl,hl,hm,hL,hc⟩
 ·exact ⟨Df.Sl.empty _ _ _,Nat.le_refl _,by omega⟩
 ·have hm':(cap:Int)≤9223372036854775807:=by unfold maxLen at hm;omega
  refine ⟨⟨by rw [List.length_take];omega,fun s hs=>?_,fun h0=>?_⟩,hl,hm'⟩
  ·obtain ⟨i,hi,rfl⟩:=List.getElem_of_mem (List.mem_of_mem_take hs);have:=(hc i (by omega)).1
   rwa [List.getD_eq_getElem?_getD,List.getElem?_eq_getElem hi] at this
  ·have h1:w.cell? ((⟨b,off,spot⟩:Addr).add 0)=some (.string (L.getD 0 Df.zero).nm):=(hc 0 (by omega)).2 0 (by decide);have hs:spot=none:=by
    have h2:w.cell? ⟨b,off,spot⟩=some (.string (L.getD 0 Df.zero).nm):=by simpa [Addr.add] using h1
    exact World.cell?_spot h2
   subst hs;have hlt:b<w.heap.size:=by
    have h2:w.cell? ⟨b,off,none⟩=some (.string (L.getD 0 Df.zero).nm):=by simpa [Addr.add] using h1
    exact block_lt h2
   refine ⟨b,off,rfl,hlt,fun i hi=>?_⟩;have h2:=(hc i (by omega)).2;simp only [add_none] at h2;rw [List.getD_eq_getElem?_getD,List.getElem?_take_of_lt hi,←List.getD_eq_getElem?_getD];exact ⟨h2 0 (by decide),h2 1 (by decide),h2 2 (by decide),h2 3 (by decide)⟩
end Go.Proofs.YtclgbdfkdbbinaaGreat
