/-
  What is proved here: words and contracts, a part of those that the statement rests on (B25).
  Conditions: none but that the arguments are values of their types.
-/
import Derived.Test.YtclgbdfkdbbinaaGreatB0
import Derived.Test.YtclgbdfkdbbinaaGreatB20
import Derived.Test.YtclgbdfkdbbinaaGreatB18
import Derived.Test.YtclgbdfkdbbinaaGreatB6
import Derived.Test.YtclgbdfkdbbinaaGreatB24
import Derived.Test.YtclgbdfkdbbinaaGreatB15
import Derived.Test.YtclgbdfkdbbinaaGreatB7
import Derived.Test.YtclgbdfkdbbinaaGreatB17
import Derived.Deep.Cut
import Derived.Deep.DeepCutAuto
set_option linter.unusedVariables false
set_option linter.unusedSimpArgs false
set_option maxRecDepth 100000
set_option maxHeartbeats 12800000
namespace Go.Proofs.YtclgbdfkdbbinaaGreat
open Go.RowKit
theorem kM {L:List Df} {q:Nat} (h:q<L.length):(L.take (q+1)).map (·.nm)=(L.take q).map (·.nm)++[(L.getD q Df.zero).nm]:=by
 rw [Df.take_snoc h,List.map_append];rfl
theorem pf (B:Nat) (x:Spv) (m:Sp) (w:World) (h:x.Is w B m) (hB:B≤w.heap.size) (hnil:x.nd.a=none→x.nd.c=0) (l1:m.nd.length≤1000000) (l4:m.df.length≤1000000) :
 Calls Tryz.prog 30 #[x.val] w fun r w'=>(∃u,r=.returned u∧w'.ownsRow w.heap.size 9 1 u (aG m).length ((aG m).map Value.string))∧Below w.heap.size w w':=by
 obtain ⟨i0,hI,hz0,hz1,hz2⟩:=info_parts gN;have HI:=hZz hI;have HZ0:=hZz hz0;have HZ1:=hZz hz1;have HZ2:=hZz hz2;have HND:=hZz h.nd;have HDF:=hZz h.df;have HNIL:=hZz hnil;have hso:=h.so;have hnl:=h.nd.1;have hdl:=h.df.hl;obtain ⟨k,so,⟨nda,ndn,ndc⟩,en,⟨coa,con,coc⟩,⟨daa,dan,dac⟩,bz,⟨tla,tln,tlc⟩,tz,⟨dfa,dfn,dfc⟩,⟨fxa,fxn,fxc⟩⟩:=x;simp only at HND HDF HNIL hso hnl hdl;subst hso;have HNL:=hZz hnl;have HDL:=hZz hdl;have hl1:ndn≤1000000:=by omega
 have hl4:dfn≤1000000:=by omega
 have i4:(dfn:Int)≤1000000:=by omega
 obtain ⟨LB,hLB⟩:∃LB,aG m=LB:=⟨_,rfl⟩
 rw [hLB];have HLB:Hid (LB=(m.so :: m.nd)++(m.df.take dfn).map (·.nm)):=hZz (by rw [←hLB];unfold aG;rw [List.take_of_length_le (by omega)];rfl);clear h hI hz0 hz1 hz2 hnil hnl hdl l1 l4 hLB;unfold Spv.val;simp only
 obtain ⟨C,hC⟩:∃C:Array Value,C=#[.int .i64 k,.string m.so,.slice nda ndn ndc,.int .u64 en,.slice coa con coc,.slice daa dan dac,.int .u64 bz,.slice tla tln tlc,.int .u64 tz,.slice dfa dfn dfc,.slice fxa fxn fxc]:=⟨_,rfl⟩
 have HCC:Hid (∀wx,Blk wx w.heap.size C 47→Blk wx w.heap.size #[.int .i64 k,.string m.so,.slice nda ndn ndc,.int .u64 en,.slice coa con coc,.slice daa dan dac,.int .u64 bz,.slice tla tln tlc,.int .u64 tz,.slice dfa dfn dfc,.slice fxa fxn fxc] 47):=hZz (fun wx h=>by rw [←hC];exact h);have HST0:Hid (bm w ((w.alloc (.cells #[.int .i64 k,.string m.so,.slice nda ndn ndc,.int .u64 en,.slice coa con coc,.slice daa dan dac,.int .u64 bz,.slice tla tln tlc,.int .u64 tz,.slice dfa dfn dfc,.slice fxa fxn fxc] 47)).alloc (.cells #[.string m.so] 9)) C 47 9 1 (.slice (some ⟨w.heap.size+1,0,none⟩) 1 1) 1 [.string m.so]):=hZz
  ⟨⟨rfl,.inr ⟨_,_,_,rfl,lZr _,by have:=Blk.new (w.alloc (.cells #[.int .i64 k,.string m.so,.slice nda ndn ndc,.int .u64 en,.slice coa con coc,.slice daa dan dac,.int .u64 bz,.slice tla tln tlc,.int .u64 tz,.slice dfa dfn dfc,.slice fxa fxn fxc] 47)) #[.string m.so] 9;rw [World.size_alloc] at this;exact this,lZr _,by decide,rfl,rfl⟩⟩,by rw [hC];exact (Blk.new _ _ _).alloc _,((Below.refl _ _).alloc (lZr _) _).alloc (by simp) _⟩
 have HNB:Hid (du ((w.alloc (.cells #[.int .i64 k,.string m.so,.slice nda ndn ndc,.int .u64 en,.slice coa con coc,.slice daa dan dac,.int .u64 bz,.slice tla tln tlc,.int .u64 tz,.slice dfa dfn dfc,.slice fxa fxn fxc] 47)).alloc (.cells #[.string m.so] 9)) B nda ndn m.nd):=hZz (HND.out.below ((((Below.refl _ _).alloc (lZr _) _).alloc (by simp) _).mono hB));clear hC;go_enter Tryz.func30,Tryz.ntmps30
 go_wp2_with (at_builtin;refine eP rfl _ _ 28 rfl (w.heap.size+1) 9 i0 (.string .empty) 16 Tryz.underlying28 HI.out HZ0.out HZ1.out HZ2.out rfl _ 1 _ rfl HST0.out.own _ ndn ndc _ m.nd rfl HNB.out HNIL.out ?e1 ?e2 ?e3 ?_);case e1=>unfold maxLen;omega
 case e2=>omega
 case e3=>simp
 intro v2 w2 hown2 hg2;have HST1:Hid (bm w w2 C 47 9 1 v2 (1+ndn) ((m.so :: m.nd).map Value.string)):=hZz
  ⟨hown2,HST0.out.box.grown hg2 (fun e=>by have:=(HST0.out.own.lt _ e.symm).1;omega),HST0.out.bel.grown hg2 HST0.out.bel.size (fun q e=>by have:=(HST0.out.own.lt q e).1;omega)⟩
 have hbx:=HCC.out _ HST1.out.box;have q9:w2.cell? ⟨w.heap.size,9,none⟩=some (.slice dfa dfn dfc):=hbx.cell 9;have hlw:=hbx.lt;obtain ⟨va,vc,hva,-,-⟩:=az hown2;subst hva;clear hown2 hg2 hbx HST0 HNB;go_wp2;go_loopw [3,15] (fun l i wr=>∃(q:Nat) (Z:List ByteArray),q≤dfn∧i=.int .i64 q∧Z=(m.so :: m.nd)++(m.df.take q).map (·.nm)∧bm w wr C 47 9 1 l (1+ndn+q) (Z.map Value.string)) (fun _ i _=>dfn-(intOf i).toNat)
 case atStart=>exact ⟨0,m.so :: m.nd,Nat.zero_le _,rfl,by simp,HST1.out⟩
 case round=>
  obtain ⟨q,Z,hq,rfl,hZ,hst⟩:=hrel;have HZZ:=hZz hZ;clear hZ;have HST:=hZz hst;obtain ⟨la,lc,rfl,-,-⟩:=az hst.own;by_cases hlt:q<dfn
  ·have hqi:(q:Int)<dfn:=by omega
   obtain ⟨b,off,hdfa,hbB,hcell⟩:=HDF.out.hc oZm;subst hdfa;have hbw0:b<w.heap.size:=Nat.lt_of_lt_of_le hbB hB;obtain ⟨c0,c1,c2,c3⟩:=(hcell q hlt).below hst.bel hbw0;have hbw:b<wr.heap.size:=Nat.lt_of_lt_of_le hbw0 hst.bel.size;have HSU:=hZz (kM (L:=m.df) (q:=q) (by rw [HDL.out];exact hlt));clear hcell hst;generalize m.df.getD q Df.zero=d at c0 c1 c2 c3 HSU;obtain ⟨dn,dw,dof,dk⟩:=d;simp only at c0 c1 c2 c3 HSU;have HSA:=hZz (HST.out.alloc (.cells #[.string dn,.int .i64 dw,.int .u64 dof,.bool dk] 61));go_wp2_with (at_builtin;refine wpList_append_own _ rfl _ _ 28 rfl (w.heap.size+1) 9 i0 _ 1 16 Tryz.underlying28 HI.out HZ0.out HZ1.out HZ2.out rfl dZc _ (1+ndn+q) _ rfl (HSA.out.alloc _).own _ 1 1 [.string dn] rfl rfl ?d1 ?d2 ?d3 ?d4 ?d5 ?_);try (case d1=>exact bT (wr.alloc _) [.string dn] _ _ (by simp))
   case d2=>first | (intro u hu;obtain rfl:=List.mem_singleton.1 hu;rfl) | rfl | simp
   case d3=>unfold maxLen;omega
   case d4=>omega
   case d5=>have:=HSA.out.box.lt;simp at this;simp;omega
   intro v4 w4 hown4 hg4 _;have HA:Hid (bm w w4 C 47 9 1 v4 (1+ndn+(q+1)) ((Z++[dn]).map Value.string)):=hZz (HSA.out.app (by rw [List.map_append];exact hown4) hg4);have HZ9:Hid (Z++[dn]=(m.so :: m.nd)++(m.df.take (q+1)).map (·.nm)):=hZz (by rw [HSU.out,HZZ.out,List.append_assoc]);clear hown4 hg4;go_wp2;go_roundw
   case rel=>exact ⟨q+1,Z++[dn],by omega,by go_num,HZ9.out,HA.out⟩
   case measure=>(simp [intOf]<;>omega)
  ·obtain rfl:q=dfn:=by omega
   have HLN:Hid (LB.length=1+ndn+q):=hZz (by rw [HLB.out];simp [HNL.out,HDL.out];omega);clear hst;go_wp2;go_ret;refine ⟨⟨_,rfl,?_⟩,HST.out.bel⟩;rw [HLN.out,HLB.out,←HZZ.out];exact aR HST.out.own (Nat.le_succ _)
theorem qS {m:Sp} (h:aZ m) (n Dy V1 V3 V5 Cp Dp Tp:Nat) (hn:(au m).length=n) (e1:bp m=Dy) (e2:cK m=V1) (e3:dN m=V3) (e4:ez m=V5) (e5:ar m=Cp) (e6:ak m=Dp) (e7:aD m=Tp) (E4:List Int)
 (h4:E4=(if 0<m.df.length then List.replicate 24 0 else [])++(cW m m.df.length).flatMap bq) :
 64≤n∧64+((eo m).flatMap bH).length≤n∧Dy+(bf (bK m) (vB m)).length≤n∧V1+(aA m).length≤n∧(E4.length=0∨V3+E4.length≤n)∧(((ce m m.fx.length).flatMap bP).length=0∨V5+((ce m m.fx.length).flatMap bP).length≤n)∧
 (m.co.length=0∨Cp+m.co.length≤n)∧(m.da.length=0∨Dp+m.da.length≤n)∧(m.tl.length=0∨Tp+m.tl.length≤n)∧V3≤1000000∧V5≤1000000∧Cp≤1000000∧Dp≤1000000∧Tp≤1000000:=by
 have p:=h.places;have s:=p.small h;have hf:=lr h;rw [hn] at hf;have p1:=p.tl;have p2:=p.da;have p3:=h.sz;have p4:=p.co;have p5:=p.en;have p6:=p.re;have p7:=p.sy;have p8:=p.sn;have p9:=p.rn;have p10:=p.st;have p11:=p.sz;have p12:=p.dy;have p13:=p.c;have hge:bI m≤n:=by (repeat' split at hf)<;>omega
 have a2:=flat_len bH 56 bB (eo m);have a3:=iY m;have a4:=ii m;have hsz:aW m=(bf (bK m) (v0B m)).length:=rfl;have a5:=flat_len bP 24 dW (ce m m.fx.length);have a6:(ce m m.fx.length).length=m.fx.length:=by unfold ce;simp
 have a7:=flat_len bq 24 cA (cW m m.df.length);have a8:(cW m m.df.length).length=m.df.length:=by unfold cW;simp
 have a9:(E4.length:Int)=24*cm m:=by
  rw [h4,lZa,a7,a8];unfold cm;split
  ·rw [List.length_replicate];omega
  ·rw [List.length_nil];omega
 generalize (eo m).flatMap bH=A2 at *;generalize bf (bK m) (vB m)=A3 at *;generalize (ce m m.fx.length).flatMap bP=A5 at *;refine ⟨by omega,by omega,by omega,by omega,.inr oZm,.inr oZm,?_,?_,?_,by omega,by omega,by omega,by omega,by omega⟩
 ·by_cases c:m.co.length=0
  ·exact .inl c
  ·exact .inr (by (repeat' split at hf)<;>omega)
 ·by_cases c:m.da.length=0
  ·exact .inl c
  ·exact .inr (by (repeat' split at hf)<;>omega)
 ·by_cases c:m.tl.length=0
  ·exact .inl c
  ·exact .inr (by (repeat' split at hf)<;>omega)
theorem fS {a b c d e f g:Int} (h0:0≤a∧a≤4294967295) (h1:0≤b∧b≤4294967295) (h2:0≤c∧c≤18446744073709551615) (h3:0≤d∧d≤18446744073709551615) (h4:0≤e∧e≤18446744073709551615) (h5:0≤f∧f≤18446744073709551615) (h6:0≤g∧g≤18446744073709551615):Sg.Ok ⟨a,b,c,d,e,f,g⟩:=⟨h0,h1,h2,h3,h4,h5,h6⟩
theorem mk_sy {a b c d e f:Int} (h0:0≤a∧a≤4294967295) (h1:0≤b∧b≤255) (h2:0≤c∧c≤255) (h3:0≤d∧d≤65535) (h4:0≤e∧e≤18446744073709551615) (h5:0≤f∧f≤18446744073709551615):Sy.Ok ⟨a,b,c,d,e,f⟩:=⟨h0,h1,h2,h3,h4,h5⟩
theorem mk_rl {a b c d:Int} (h0:0≤a∧a≤18446744073709551615) (h1:0≤b∧b≤4294967295) (h2:0≤c∧c≤4294967295) (h3:-9223372036854775808≤d∧d≤9223372036854775807):Rl.Ok ⟨a,b,c,d⟩:=⟨h0,h1,h2,h3⟩
theorem uI {m:Sp} (h:aZ m):∀s∈eo m,s.Ok:=by
 have p:=h.places;have s:=p.small h;have p1:=p.tl;have p2:=p.da;have p3:=h.sz;have p4:=p.co;have p5:=p.en;have p6:=p.re;have p7:=p.sy;have p8:=p.sn;have p9:=p.rn;have p10:=p.st;have p11:=p.sz;have p12:=p.dy;have p13:=p.c;have hbs:=h.bs;have htb:=h.tb;obtain ⟨d1,d2,d3,d4⟩:=iE h;intro z hz;unfold eo at hz;simp only [List.mem_append] at hz;rcases hz with (((hz | hz) | hz) | hz) | hz
 ·obtain rfl:=List.mem_singleton.1 hz;exact fS dZc dZc dZc dZc oZm oZm dZc
 ·split at hz
  ·obtain rfl:=List.mem_singleton.1 hz;exact fS dZc dZc oZm oZm oZm oZm dZc
  ·cases hz
 ·split at hz
  ·obtain rfl:=List.mem_singleton.1 hz;exact fS dZc dZc (by split<;>omega) oZm oZm oZm dZc
  ·cases hz
 ·obtain rfl:=List.mem_singleton.1 hz;exact fS dZc dZc oZm oZm oZm oZm dZc
 ·split at hz
  ·obtain rfl:=List.mem_singleton.1 hz;exact fS dZc dZc (by split<;>omega) (by split<;>omega) oZm oZm dZc
  ·cases hz
theorem iO (x:Int):0≤IntKind.u64.wrap x∧IntKind.u64.wrap x≤18446744073709551615:=by rw [IntKind.wrap_u64];omega
theorem sI {m:Sp} {d:Df} {p:Int} (hd:0≤d.wh∧d.wh≤3) (ho:cw d.of) (h0:0≤p∧p≤65536):(cE m d p).Ok:=by
 unfold cE;refine mk_sy ⟨h0.1,by omega⟩ ?_ dZc ?_ ?_ dZc
 ·(repeat' split)<;>omega
 ·split<;>decide
 ·split
  ·decide
  ·split
   ·exact iO _
   ·split
    ·exact iO _
    ·exact ho
theorem tW {m:Sp} {b:Bm} (h:aZ m) (hm:b.m=m) (hi:b.i=biB m) (hp:b.pd=(bl m).drop (1+m.nd.length)):∀s∈fI b,s.Ok:=by
 intro s hs;unfold fI at hs;rw [hm] at hs;split at hs
 ·cases hs
 ·rcases List.mem_cons.1 hs with rfl | hs
  ·constructor<;>decide
  ·unfold fG at hs;obtain ⟨j,hj,rfl⟩:=List.mem_map.1 hs;rw [List.mem_range] at hj;have e1:((bl m).drop (1+m.nd.length)).getD j 0=(bl m).getD (1+m.nd.length+j) 0:=by
    rw [gZe,List.getElem?_drop,←gZe]
   have hmem:m.df.getD j Df.zero∈m.df:=by rw [gZe,gZg hj];exact List.getElem_mem hj
   rw [hm,hi,hp,e1,nF (h.df _ hmem) (js h _)];exact sI (h.df _ hmem) (h.dok _ hmem) (js h _)
theorem nl {m:Sp} (h:aZ m):∀s∈ce m m.fx.length,s.Ok:=by
 intro s hs;unfold ce at hs;obtain ⟨j,hj,rfl⟩:=List.mem_map.1 hs;rw [List.mem_range] at hj;have hmem:m.fx.getD j Fx.zero∈m.fx:=by rw [gZe,gZg hj];exact List.getElem_mem hj
 have h1:=h.fx _ hmem;have h2:=h.fok _ hmem;have h3:=h.dfl;generalize m.fx.getD j Fx.zero=f at h1 h2;unfold fB;refine mk_rl ?_ h2.2.1 ?_ h2.2.2
 ·split<;>exact iO _
 ·split<;>omega
theorem oS {m:Sp} (h:aZ m):(biB m).Ok:=by
 have p:=h.places;have s:=p.small h;have p1:=p.tl;have p2:=p.da;have p3:=h.sz;have p4:=p.co;have p5:=p.en;have p6:=p.re;have p7:=p.sy;have p8:=p.sn;have p9:=p.rn;have p10:=p.st;have p11:=p.sz;have p12:=p.dy;have p13:=p.c;have ht:=h.tab;have ho:=js h 0;have hf:=h.fxl;unfold biB;refine ⟨⟨ho.1,?_⟩,⟨?_,?_⟩,⟨?_,?_⟩,⟨?_,?_⟩,⟨?_,?_⟩,⟨?_,?_⟩,⟨?_,?_⟩,⟨?_,?_⟩,⟨?_,?_⟩,⟨?_,?_⟩,⟨?_,?_⟩,⟨?_,?_⟩⟩;all_goals simp only
 all_goals omega
theorem Nus.sub {w:World} {B b n:Nat} {O:List Int} (h:Nus w B (some ⟨b,0,none⟩) n O) (k j p:Nat) (hk:k+j≤n) (hp:j=0∨p=k):Nus w B (some ⟨b,p,none⟩) j ((O.drop k).take j):=by
 have hl:=h.hl;refine ⟨by rw [List.length_take,List.length_drop];omega,fun z hz=>h.bd z (List.mem_of_mem_drop (List.mem_of_mem_take hz)),fun hj=>?_⟩;obtain ⟨b',o',e,hb,hc⟩:=h.hc oZm;injection e with e;injection e with e1 e2;subst e1;subst e2;refine ⟨b,p,rfl,hb,fun i hi=>?_⟩;have:=hc (k+i) oZm;rw [Nat.zero_add] at this;rw [show p=k by omega,this]
 congr 2
 rw [gZe,gZe,List.getElem?_take_of_lt hi,List.getElem?_drop]
theorem ig (m:Sp):bV m=true↔(m.df.any dz=false∧m.fx.any (dx m.df.length)=false∧(m.k=2∨m.k=3)):=by
 unfold bV;rw [Bool.and_eq_true,Bool.and_eq_true,Bool.not_eq_true',Bool.not_eq_true',Bool.or_eq_true,beq_iff_eq,beq_iff_eq];exact ⟨fun ⟨⟨a,b⟩,c⟩=>⟨a,b,c⟩,fun ⟨a,b,c⟩=>⟨⟨a,b⟩,c⟩⟩
theorem sN {m:Sp} (h:bV m=false):bt m=(1,[]):=by
 have e:gt m=1:=by
  unfold gt;by_cases hk:m.k≠2∧m.k≠3
  ·rw [if_pos hk]
  ·rw [if_neg hk];cases h1:m.df.any dz with
   | true=>rfl
   | false=>
     cases h2:m.fx.any (dx m.df.length) with
     | true=>rfl
     | false=>
       exfalso
       have:=(ig m).2 ⟨h1,h2,by omega⟩;rw [h] at this;cases this
 unfold bt;rw [e];rfl
theorem fY {m:Sp} (h:bV m=true):gt m=if cO m=true then 0 else 13:=by
 obtain ⟨h1,h2,h3⟩:=(ig m).1 h;unfold gt cO;rw [if_neg oZm,h1,h2,if_neg dZc,if_neg (by decide)];by_cases c:m.bs≤1048576∧m.tb≤1048576∧m.co.length+m.da.length+m.tl.length≤65536
 ·rw [if_neg oZm,if_pos (decide_eq_true c)]
 ·rw [if_pos oZm,if_neg (by rw [decide_eq_true_eq];exact c)]
theorem nX {m:Sp} (h:bV m=true) (hs:cO m=false):bt m=(13,[]):=by
 unfold bt;rw [fY h,hs];rfl
theorem jK {m:Sp} (h:bV m=true) (hs:cO m=true) (hc:fy (aG m)=false):bt m=(1,[]):=by
 unfold bt;rw [fY h,hs,if_neg dZc,if_pos hc]
theorem kY {m:Sp} (h:bV m=true) (hs:cO m=true) (hc:fy (aG m)=true) (ht:65536<(aA m).length):bt m=(13,[]):=by
 unfold bt;rw [fY h,hs,if_neg dZc,if_neg (by rw [hc];decide),if_pos ht]
theorem kW {m:Sp} (h:bV m=true) (hs:cO m=true) (hc:fy (aG m)=true) (ht:(aA m).length≤65536):bt m=if 65536<(au m).length then (13,[]) else (0,au m):=by
 unfold bt;rw [fY h,hs,if_neg dZc,if_neg (by rw [hc];decide),if_neg (by omega)]
structure PlS (w wx:World) (gx:Nat) (C S:Array Value):Prop where
 box:Blk wx gx C 84
 spec:Blk wx w.heap.size S 47
 res:Blk wx (w.heap.size+1) #[.int .i64 0,.string ⟨#[]⟩,.slice none 0 0,.int .u64 0,.slice none 0 0,.slice none 0 0,.int .u64 0,.slice none 0 0,.int .u64 0,.slice none 0 0,.slice none 0 0,.slice none 0 0,.slice none 0 0,.slice none 0 0,.int .u64 0,.int .u64 0,.int .u64 0,.int .u64 0,.int .u64 0,.int .u64 0,.int .u64 0,.int .u64 0,.int .u64 0,.int .u64 0,.int .u64 0,.int .u64 0] 84
 bel:Below w.heap.size w wx
 lt:w.heap.size+1<gx
theorem PlS.later {w wx w':World} {gx:Nat} {C S:Array Value} (h:PlS w wx gx C S) (hb:Below wx.heap.size wx w'):PlS w w' gx C S:=⟨h.box.later hb,h.spec.later hb,h.res.later hb,h.bel.trans (hb.mono h.bel.size),h.lt⟩
theorem PlS.drew {w wx:World} {gx:Nat} {C S:Array Value} (h:PlS w wx gx C S):PlS w wx.drew gx C S:=h.later (Below.refl _ _).drew
theorem PlS.set {w wx:World} {gx:Nat} {C C' S:Array Value} (h:PlS w wx gx C S) (i:Nat) (v:Value) (hc:C.setIfInBounds i v=C'):PlS w (wx.setCell ⟨gx,i,none⟩ v) gx C' S:=by
 have hl:=h.lt;exact ⟨by rw [←hc];exact h.box.set i v,h.spec.setOther (by show w.heap.size≠gx;omega) v,h.res.setOther (by show w.heap.size+1≠gx;omega) v,h.bel.setCell (by show w.heap.size≤gx;omega) v,hl⟩
def dQ (V:Array Value) (w:World) (e:Ending) (w':World):Prop:=e=.returned (.agg V)∧Below w.heap.size w w'
theorem rQ (y:Nat→Value):af 114 y=#[y 0,y 1,y 2,y 3,y 4,y 5,y 6,y 7,y 8,y 9,y 10,y 11,y 12,y 13,y 14,y 15,y 16,y 17,y 18,y 19,y 20,y 21,y 22,y 23,y 24,y 25,y 26,y 27,y 28,y 29,y 30,y 31,y 32,y 33,y 34,y 35,y 36,y 37,y 38,y 39,y 40,y 41,y 42,y 43,y 44,y 45,y 46,y 47,y 48,y 49,y 50,y 51,y 52,y 53,y 54,y 55,y 56,y 57,y 58,y 59,y 60,y 61,y 62,y 63,y 64,y 65,y 66,y 67,y 68,y 69,y 70,y 71,y 72,y 73,y 74,y 75,y 76,y 77,y 78,y 79,y 80,y 81,y 82,y 83,y 84,y 85,y 86,y 87,y 88,y 89,y 90,y 91,y 92,y 93,y 94,y 95,y 96,y 97,y 98,y 99,y 100,y 101,y 102,y 103,y 104,y 105,y 106,y 107,y 108,y 109,y 110,y 111,y 112,y 113]:=rfl
theorem nZ (N V:List Int):(bf N V).length≤16*(N.length+8):=by
 unfold bf;rw [eV];unfold nj aj;simp only [lZa,List.length_map,List.length_cons,List.length_nil];have:=List.length_filter_le (cL V) (List.range 7);rw [List.length_range] at this;omega
theorem vT (y:Nat→Value) (w wz:World) (gx:Nat) (k:Int) (so:ByteArray) (nda:Option Addr) (ndn ndc:Nat) (en:Int) (coa:Option Addr) (con coc:Nat) (daa:Option Addr) (dan dac:Nat) (bz:Int) (tla:Option Addr) (tln tlc:Nat) (tz:Int) (dfa:Option Addr) (dfn dfc:Nat) (fxa:Option Addr) (fxn fxc:Nat) (tba:Option Addr) (tbn tbc:Nat) (pda:Option Addr) (pdn pdc:Nat) (pna:Option Addr) (pnn pnc:Nat) (h3:y 3=.pointer (some ⟨w.heap.size,0,none⟩)) (h6:y 6=.pointer (some ⟨w.heap.size+1,0,none⟩)) (h8:y 8=.pointer (some ⟨gx,0,none⟩)) (v0 v1 v2 v3 v4 v5 v6 dy fr cp dp tp:Int) (b1:0≤v1∧v1≤1000000000) (b2:0≤v2∧v2≤1000000000) (b4:0≤v4∧v4≤1000000000) (b6:0≤v6∧v6≤1000000000) (lco:con≤1000000) (lda:dan≤1000000) (e3:v3=upI (v1+v2) 8) (e5:v5=v3+24*v4) (ef:fr=v5+v6) (ec:cp=upI fr 256) (ed:dp=upI (cp+con) 256) (et:tp=upI (dp+dan) 8) (hst:PlS w wz gx #[.int .i64 k,.string so,.slice nda ndn ndc,.int .u64 en,.slice coa con coc,.slice daa dan dac,.int .u64 bz,.slice tla tln tlc,.int .u64 tz,.slice dfa dfn dfc,.slice fxa fxn fxc,.slice tba tbn tbc,.slice pda pdn pdc,.slice pna pnn pnc,.int .u64 v0,.int .u64 v1,.int .u64 v2,.int .u64 0,.int .u64 v4,.int .u64 0,.int .u64 v6,.int .u64 dy,.int .u64 0,.int .u64 0,.int .u64 0,.int .u64 0] #[.int .i64 k,.string so,.slice nda ndn ndc,.int .u64 en,.slice coa con coc,.slice daa dan dac,.int .u64 bz,.slice tla tln tlc,.int .u64 tz,.slice dfa dfn dfc,.slice fxa fxn fxc]) :
 Code.wp Tryz.prog (aq 8 (Tryz.f31.body.getD .skip)) (bodyPost Tryz.prog Tryz.f31 (dQ #[.int .i64 k,.string so,.slice nda ndn ndc,.int .u64 en,.slice coa con coc,.slice daa dan dac,.int .u64 bz,.slice tla tln tlc,.int .u64 tz,.slice dfa dfn dfc,.slice fxa fxn fxc,.slice tba tbn tbc,.slice pda pdn pdc,.slice pna pnn pnc,.int .u64 v0,.int .u64 v1,.int .u64 v2,.int .u64 v3,.int .u64 v4,.int .u64 v5,.int .u64 v6,.int .u64 dy,.int .u64 fr,.int .u64 cp,.int .u64 dp,.int .u64 tp] w)) ⟨af 114 y,[]⟩ wz:=by
 rw [rQ,h3,h6,h8];clear h3 h6 h8;conv=>arg 2;whnf
 obtain ⟨b10,b11⟩:=b1;obtain ⟨b20,b21⟩:=b2;obtain ⟨b40,b41⟩:=b4;obtain ⟨b60,b61⟩:=b6;have b30:0≤v3∧v3≤3000000000:=by rw [e3];unfold upI;omega
 obtain ⟨b30,b31⟩:=b30;have b50:0≤v5∧v5≤30000000000:=by omega
 obtain ⟨b50,b51⟩:=b50;have bf0:0≤fr∧fr≤40000000000:=by omega
 obtain ⟨bf0,bf1⟩:=bf0;have bc0:0≤cp∧cp≤50000000000:=by rw [ec];unfold upI;omega
 obtain ⟨bc0,bc1⟩:=bc0;have bd0:0≤dp∧dp≤60000000000:=by rw [ed];unfold upI;omega
 obtain ⟨bd0,bd1⟩:=bd0;have lcoi:(con:Int)≤1000000:=by omega
 have ldai:(dan:Int)≤1000000:=by omega
 have HU3:Hid (∀w1,Calls Tryz.prog 69 #[.int .u64 (v1+v2),.int .u64 8] w1 fun r w'=>r=.returned (.int .u64 v3)∧w1=w'):=hZz (fun w1=>by rw [e3];exact kr _ 8 w1 oZm oZm (.inl rfl));have HUC:Hid (∀w1,Calls Tryz.prog 69 #[.int .u64 fr,.int .u64 256] w1 fun r w'=>r=.returned (.int .u64 cp)∧w1=w'):=hZz (fun w1=>by rw [ec];exact kr _ 256 w1 oZm oZm (.inr rfl));have HUD:Hid (∀w1,Calls Tryz.prog 69 #[.int .u64 (cp+con),.int .u64 256] w1 fun r w'=>r=.returned (.int .u64 dp)∧w1=w'):=hZz (fun w1=>by rw [ed];exact kr _ 256 w1 oZm oZm (.inr rfl));have HUT:Hid (∀w1,Calls Tryz.prog 69 #[.int .u64 (dp+dan),.int .u64 8] w1 fun r w'=>r=.returned (.int .u64 tp)∧w1=w'):=hZz (fun w1=>by rw [et];exact kr _ 8 w1 oZm oZm (.inl rfl));have HE5:Hid (v3+24*v4=v5):=hZz e5.symm;have HEF:Hid (v5+v6=fr):=hZz ef.symm;clear e3 e5 ef ec ed et lco lda;have HST:=hZz hst;have hlt:=hst.lt;clear hst;have q15:wz.cell? ⟨gx,15,none⟩=some (.int .u64 v1):=HST.out.box.cell 15;have q16:wz.cell? ⟨gx,16,none⟩=some (.int .u64 v2):=HST.out.box.cell 16;go_wp2_with fail;refine (HU3.out _).mono ?_;rintro r w1 ⟨rfl,rfl⟩;clear HU3 q15 q16;have q17:wz.cell? ⟨gx,17,none⟩=some (.int .u64 0):=HST.out.box.cell 17;have q18:wz.cell? ⟨gx,18,none⟩=some (.int .u64 v4):=HST.out.box.cell 18;have q19:wz.cell? ⟨gx,19,none⟩=some (.int .u64 0):=HST.out.box.cell 19;have q20:wz.cell? ⟨gx,20,none⟩=some (.int .u64 v6):=HST.out.box.cell 20;have q22:wz.cell? ⟨gx,22,none⟩=some (.int .u64 0):=HST.out.box.cell 22;have f17:wz.frozen? ⟨gx,17,none⟩=false:=HST.out.box.frozen 17;have f19:wz.frozen? ⟨gx,19,none⟩=false:=HST.out.box.frozen 19;have f22:wz.frozen? ⟨gx,22,none⟩=false:=HST.out.box.frozen 22;go_wp2_with fail;rw [HE5.out,HEF.out];have hst:=(((HST.out.set 17 (.int .u64 v3) rfl).set 19 (.int .u64 v5) rfl).set 22 (.int .u64 fr) rfl:PlS w _ gx #[.int .i64 k,.string so,.slice nda ndn ndc,.int .u64 en,.slice coa con coc,.slice daa dan dac,.int .u64 bz,.slice tla tln tlc,.int .u64 tz,.slice dfa dfn dfc,.slice fxa fxn fxc,.slice tba tbn tbc,.slice pda pdn pdc,.slice pna pnn pnc,.int .u64 v0,.int .u64 v1,.int .u64 v2,.int .u64 v3,.int .u64 v4,.int .u64 v5,.int .u64 v6,.int .u64 dy,.int .u64 fr,.int .u64 0,.int .u64 0,.int .u64 0] #[.int .i64 k,.string so,.slice nda ndn ndc,.int .u64 en,.slice coa con coc,.slice daa dan dac,.int .u64 bz,.slice tla tln tlc,.int .u64 tz,.slice dfa dfn dfc,.slice fxa fxn fxc])
 obtain ⟨w2,hw⟩:∃q,((wz.setCell ⟨gx,17,none⟩ (.int .u64 v3)).setCell ⟨gx,19,none⟩ (.int .u64 v5)).setCell ⟨gx,22,none⟩ (.int .u64 fr)=q:=⟨_,rfl⟩
 rw [hw] at hst⊢;have HST2:=hZz hst;clear hw hst;refine (HUC.out _).mono ?_;rintro r w3 ⟨rfl,rfl⟩;clear HUC q17 q18 q19 q20 q22 f17 f19 f22 HST HE5 HEF;have q23:w2.cell? ⟨gx,23,none⟩=some (.int .u64 0):=HST2.out.box.cell 23;have f23:w2.frozen? ⟨gx,23,none⟩=false:=HST2.out.box.frozen 23;have s4:w2.cell? ⟨w.heap.size,4,none⟩=some (.slice coa con coc):=HST2.out.spec.cell 4;have hne:w.heap.size≠gx:=by omega
 go_wp2_with fail;have hst:=(HST2.out.set 23 (.int .u64 cp) rfl:PlS w _ gx #[.int .i64 k,.string so,.slice nda ndn ndc,.int .u64 en,.slice coa con coc,.slice daa dan dac,.int .u64 bz,.slice tla tln tlc,.int .u64 tz,.slice dfa dfn dfc,.slice fxa fxn fxc,.slice tba tbn tbc,.slice pda pdn pdc,.slice pna pnn pnc,.int .u64 v0,.int .u64 v1,.int .u64 v2,.int .u64 v3,.int .u64 v4,.int .u64 v5,.int .u64 v6,.int .u64 dy,.int .u64 fr,.int .u64 cp,.int .u64 0,.int .u64 0] #[.int .i64 k,.string so,.slice nda ndn ndc,.int .u64 en,.slice coa con coc,.slice daa dan dac,.int .u64 bz,.slice tla tln tlc,.int .u64 tz,.slice dfa dfn dfc,.slice fxa fxn fxc])
 obtain ⟨w4,hw⟩:∃q,w2.setCell ⟨gx,23,none⟩ (.int .u64 cp)=q:=⟨_,rfl⟩
 rw [hw] at hst⊢;have HST4:=hZz hst;clear hw hst;refine (HUD.out _).mono ?_;rintro r w5 ⟨rfl,rfl⟩;clear HUD q23 f23 s4 HST2;have q24:w4.cell? ⟨gx,24,none⟩=some (.int .u64 0):=HST4.out.box.cell 24;have f24:w4.frozen? ⟨gx,24,none⟩=false:=HST4.out.box.frozen 24;have s5:w4.cell? ⟨w.heap.size,5,none⟩=some (.slice daa dan dac):=HST4.out.spec.cell 5;go_wp2_with fail;have hst:=(HST4.out.set 24 (.int .u64 dp) rfl:PlS w _ gx #[.int .i64 k,.string so,.slice nda ndn ndc,.int .u64 en,.slice coa con coc,.slice daa dan dac,.int .u64 bz,.slice tla tln tlc,.int .u64 tz,.slice dfa dfn dfc,.slice fxa fxn fxc,.slice tba tbn tbc,.slice pda pdn pdc,.slice pna pnn pnc,.int .u64 v0,.int .u64 v1,.int .u64 v2,.int .u64 v3,.int .u64 v4,.int .u64 v5,.int .u64 v6,.int .u64 dy,.int .u64 fr,.int .u64 cp,.int .u64 dp,.int .u64 0] #[.int .i64 k,.string so,.slice nda ndn ndc,.int .u64 en,.slice coa con coc,.slice daa dan dac,.int .u64 bz,.slice tla tln tlc,.int .u64 tz,.slice dfa dfn dfc,.slice fxa fxn fxc])
 obtain ⟨w6,hw⟩:∃q,w4.setCell ⟨gx,24,none⟩ (.int .u64 dp)=q:=⟨_,rfl⟩
 rw [hw] at hst⊢;have HST6:=hZz hst;clear hw hst;refine (HUT.out _).mono ?_;rintro r w7 ⟨rfl,rfl⟩;clear HUT q24 f24 s5 HST4;have q25:w6.cell? ⟨gx,25,none⟩=some (.int .u64 0):=HST6.out.box.cell 25;have f25:w6.frozen? ⟨gx,25,none⟩=false:=HST6.out.box.frozen 25;have HBX:Hid (Blk (w6.setCell ⟨gx,25,none⟩ (.int .u64 tp)) gx #[.int .i64 k,.string so,.slice nda ndn ndc,.int .u64 en,.slice coa con coc,.slice daa dan dac,.int .u64 bz,.slice tla tln tlc,.int .u64 tz,.slice dfa dfn dfc,.slice fxa fxn fxc,.slice tba tbn tbc,.slice pda pdn pdc,.slice pna pnn pnc,.int .u64 v0,.int .u64 v1,.int .u64 v2,.int .u64 v3,.int .u64 v4,.int .u64 v5,.int .u64 v6,.int .u64 dy,.int .u64 fr,.int .u64 cp,.int .u64 dp,.int .u64 tp] 84):=hZz (HST6.out.set 25 (.int .u64 tp) (C':=#[.int .i64 k,.string so,.slice nda ndn ndc,.int .u64 en,.slice coa con coc,.slice daa dan dac,.int .u64 bz,.slice tla tln tlc,.int .u64 tz,.slice dfa dfn dfc,.slice fxa fxn fxc,.slice tba tbn tbc,.slice pda pdn pdc,.slice pna pnn pnc,.int .u64 v0,.int .u64 v1,.int .u64 v2,.int .u64 v3,.int .u64 v4,.int .u64 v5,.int .u64 v6,.int .u64 dy,.int .u64 fr,.int .u64 cp,.int .u64 dp,.int .u64 tp]) rfl).box;have HRS:Hid (Blk (w6.setCell ⟨gx,25,none⟩ (.int .u64 tp)) (w.heap.size+1) #[.int .i64 0,.string ⟨#[]⟩,.slice none 0 0,.int .u64 0,.slice none 0 0,.slice none 0 0,.int .u64 0,.slice none 0 0,.int .u64 0,.slice none 0 0,.slice none 0 0,.slice none 0 0,.slice none 0 0,.slice none 0 0,.int .u64 0,.int .u64 0,.int .u64 0,.int .u64 0,.int .u64 0,.int .u64 0,.int .u64 0,.int .u64 0,.int .u64 0,.int .u64 0,.int .u64 0,.int .u64 0] 84):=hZz (HST6.out.set 25 (.int .u64 tp) (C':=#[.int .i64 k,.string so,.slice nda ndn ndc,.int .u64 en,.slice coa con coc,.slice daa dan dac,.int .u64 bz,.slice tla tln tlc,.int .u64 tz,.slice dfa dfn dfc,.slice fxa fxn fxc,.slice tba tbn tbc,.slice pda pdn pdc,.slice pna pnn pnc,.int .u64 v0,.int .u64 v1,.int .u64 v2,.int .u64 v3,.int .u64 v4,.int .u64 v5,.int .u64 v6,.int .u64 dy,.int .u64 fr,.int .u64 cp,.int .u64 dp,.int .u64 tp]) rfl).res;have HBL:Hid (Below w.heap.size w (w6.setCell ⟨gx,25,none⟩ (.int .u64 tp))):=hZz (HST6.out.set 25 (.int .u64 tp) (C':=#[.int .i64 k,.string so,.slice nda ndn ndc,.int .u64 en,.slice coa con coc,.slice daa dan dac,.int .u64 bz,.slice tla tln tlc,.int .u64 tz,.slice dfa dfn dfc,.slice fxa fxn fxc,.slice tba tbn tbc,.slice pda pdn pdc,.slice pna pnn pnc,.int .u64 v0,.int .u64 v1,.int .u64 v2,.int .u64 v3,.int .u64 v4,.int .u64 v5,.int .u64 v6,.int .u64 dy,.int .u64 fr,.int .u64 cp,.int .u64 dp,.int .u64 tp]) rfl).bel;go_wp2_with (first | (refine wpList_load_row rfl 84 _ rfl gx rfl _ _ (0,0) _ HBX.out Tryz.underlying84 rfl (by kernel_rfl) ?_) | (refine wpList_store_row rfl 84 _ _ rfl (w.heap.size+1) #[.int .i64 k,.string so,.slice nda ndn ndc,.int .u64 en,.slice coa con coc,.slice daa dan dac,.int .u64 bz,.slice tla tln tlc,.int .u64 tz,.slice dfa dfn dfc,.slice fxa fxn fxc,.slice tba tbn tbc,.slice pda pdn pdc,.slice pna pnn pnc,.int .u64 v0,.int .u64 v1,.int .u64 v2,.int .u64 v3,.int .u64 v4,.int .u64 v5,.int .u64 v6,.int .u64 dy,.int .u64 fr,.int .u64 cp,.int .u64 dp,.int .u64 tp] rfl rfl 84 _ HRS.out (by kernel_rfl) rfl (by kernel_rfl) ?_));refine bodyPost_ret (v:=.agg #[.int .i64 k,.string so,.slice nda ndn ndc,.int .u64 en,.slice coa con coc,.slice daa dan dac,.int .u64 bz,.slice tla tln tlc,.int .u64 tz,.slice dfa dfn dfc,.slice fxa fxn fxc,.slice tba tbn tbc,.slice pda pdn pdc,.slice pna pnn pnc,.int .u64 v0,.int .u64 v1,.int .u64 v2,.int .u64 v3,.int .u64 v4,.int .u64 v5,.int .u64 v6,.int .u64 dy,.int .u64 fr,.int .u64 cp,.int .u64 dp,.int .u64 tp]) ?_ rfl ?_
 ·exact results_cell_row Tryz.results31 _ _ (w.heap.size+1) 84 #[.int .i64 k,.string so,.slice nda ndn ndc,.int .u64 en,.slice coa con coc,.slice daa dan dac,.int .u64 bz,.slice tla tln tlc,.int .u64 tz,.slice dfa dfn dfc,.slice fxa fxn fxc,.slice tba tbn tbc,.slice pda pdn pdc,.slice pna pnn pnc,.int .u64 v0,.int .u64 v1,.int .u64 v2,.int .u64 v3,.int .u64 v4,.int .u64 v5,.int .u64 v6,.int .u64 dy,.int .u64 fr,.int .u64 cp,.int .u64 dp,.int .u64 tp] (0,0) _ rfl (setRow_heap _ _ _ _ _ _ HRS.out) Tryz.underlying84 rfl (by kernel_rfl)
 ·exact ⟨rfl,below_setRow HBL.out (Nat.le_succ _) _⟩
theorem vE (x:List Value) (hx:x.length=114) (w wz:World) (gx:Nat) (k:Int) (so:ByteArray) (nda:Option Addr) (ndn ndc:Nat) (en:Int) (coa:Option Addr) (con coc:Nat) (daa:Option Addr) (dan dac:Nat) (bz:Int) (tla:Option Addr) (tln tlc:Nat) (tz:Int) (dfa:Option Addr) (dfn dfc:Nat) (fxa:Option Addr) (fxn fxc:Nat) (tba:Option Addr) (tbn tbc:Nat) (pda:Option Addr) (pdn pdc:Nat) (pna:Option Addr) (pnn pnc:Nat) (h3:x.getD 3 undef=.pointer (some ⟨w.heap.size,0,none⟩)) (h6:x.getD 6 undef=.pointer (some ⟨w.heap.size+1,0,none⟩)) (h8:x.getD 8 undef=.pointer (some ⟨gx,0,none⟩)) (v0 v1 v2 v3 v4 v5 v6 dy fr cp dp tp:Int) (b1:0≤v1∧v1≤1000000000) (b2:0≤v2∧v2≤1000000000) (b4:0≤v4∧v4≤1000000000) (b6:0≤v6∧v6≤1000000000) (lco:con≤1000000) (lda:dan≤1000000) (e3:v3=upI (v1+v2) 8) (e5:v5=v3+24*v4) (ef:fr=v5+v6) (ec:cp=upI fr 256) (ed:dp=upI (cp+con) 256) (et:tp=upI (dp+dan) 8) (hst:PlS w wz gx #[.int .i64 k,.string so,.slice nda ndn ndc,.int .u64 en,.slice coa con coc,.slice daa dan dac,.int .u64 bz,.slice tla tln tlc,.int .u64 tz,.slice dfa dfn dfc,.slice fxa fxn fxc,.slice tba tbn tbc,.slice pda pdn pdc,.slice pna pnn pnc,.int .u64 v0,.int .u64 v1,.int .u64 v2,.int .u64 0,.int .u64 v4,.int .u64 0,.int .u64 v6,.int .u64 dy,.int .u64 0,.int .u64 0,.int .u64 0,.int .u64 0] #[.int .i64 k,.string so,.slice nda ndn ndc,.int .u64 en,.slice coa con coc,.slice daa dan dac,.int .u64 bz,.slice tla tln tlc,.int .u64 tz,.slice dfa dfn dfc,.slice fxa fxn fxc]) :
 Code.wp Tryz.prog (aq 8 (Tryz.f31.body.getD .skip)) (bodyPost Tryz.prog Tryz.f31 (dQ #[.int .i64 k,.string so,.slice nda ndn ndc,.int .u64 en,.slice coa con coc,.slice daa dan dac,.int .u64 bz,.slice tla tln tlc,.int .u64 tz,.slice dfa dfn dfc,.slice fxa fxn fxc,.slice tba tbn tbc,.slice pda pdn pdc,.slice pna pnn pnc,.int .u64 v0,.int .u64 v1,.int .u64 v2,.int .u64 v3,.int .u64 v4,.int .u64 v5,.int .u64 v6,.int .u64 dy,.int .u64 fr,.int .u64 cp,.int .u64 dp,.int .u64 tp] w)) ⟨x.toArray,[]⟩ wz:=by
 rw [ap x,hx];exact vT (fun t=>x.getD t undef) w wz gx k so nda ndn ndc en coa con coc daa dan dac bz tla tln tlc tz dfa dfn dfc fxa fxn fxc tba tbn tbc pda pdn pdc pna pnn pnc h3 h6 h8 v0 v1 v2 v3 v4 v5 v6 dy fr cp dp tp b1 b2 b4 b6 lco lda e3 e5 ef ec ed et hst
end Go.Proofs.YtclgbdfkdbbinaaGreat
