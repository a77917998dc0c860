/-
  What is proved here: words and contracts, a part of those that the statement rests on (P24).
  Conditions: none but that the arguments are values of their types.
-/
import Derived.Test.YtclgbdfkdbbinaaGreatP19
import Derived.Test.YtclgbdfkdbbinaaGreatP23
import Derived.Test.YtclgbdfkdbbinaaGreatP13
import Derived.Test.YtclgbdfkdbbinaaGreatP7
import Derived.Test.YtclgbdfkdbbinaaGreatP1
import Derived.Test.YtclgbdfkdbbinaaGreatP20
import Derived.Test.YtclgbdfkdbbinaaGreatP17
import Derived.Test.YtclgbdfkdbbinaaGreatP11
import Derived.Test.YtclgbdfkdbbinaaGreatP18
import Derived.BigQuiet
import Derived.Deep.QuietTactic
import Derived.Deep.Cut
import Derived.Deep.DeepCutAuto
import Derived.Laws.AppendOwnNone
set_option linter.unusedVariables false
set_option linter.unusedSimpArgs false
set_option maxRecDepth 100000
set_option maxHeartbeats 12800000
namespace Go.Proofs.YtclgbdfkdbbinaaGreat
open Go.RowKit
structure MayB (m:Sp):Prop where
 k:m.k=2∨m.k=3
 df:∀d∈m.df,0≤d.wh∧d.wh≤3
 fx:∀f∈m.fx,(f.wh=1∨f.wh=2)∧f.df<m.df.length
 bs:0≤m.bs∧m.bs≤1048576
 tb:0≤m.tb∧m.tb≤1048576
 sz:m.co.length+m.da.length+m.tl.length≤65536
 en:u64B m.en
 tab:(tabB m).length≤65536
 nd:m.nd.length≤1000
 dfl:m.df.length≤1000
 fxl:m.fx.length≤1000
 dok:∀d∈m.df,u64B d.of
 fok:∀f∈m.fx,u64B f.of∧(0≤f.ty∧f.ty≤4294967295)∧(-9223372036854775808≤f.ad∧f.ad≤9223372036854775807)
theorem up8 (x:Int):x≤upI x 8∧upI x 8≤x+7:=by unfold upI;omega
theorem up256 (x:Int):x≤upI x 256∧upI x 256≤x+255:=by unfold upI;omega
theorem count_bd (m:Sp):2≤countB m∧countB m≤5:=by unfold countB one;split<;>split<;>split<;>omega
theorem keep_vB (m:Sp):keepD (vB m)=keepD (v0B m):=rfl
theorem putV_len (m:Sp):(putBy (needO m) (vB m)).length=(putBy (needO m) (v0B m)).length:=by
 unfold putBy;rw [entsB_len,entsB_len];unfold putEs sevenD;rw [keep_vB];simp only [List.length_append,List.length_map]
theorem size_bd {m:Sp} (h:MayB m):0≤sizeB m∧sizeB m≤16128:=by
 unfold sizeB putBy;rw [entsB_len];unfold putEs sevenD;have:=List.length_filter_le (keepD (v0B m)) (List.range 7);rw [List.length_range] at this;have h1:=needO_len m;have h2:=h.nd;simp only [List.length_append,List.length_map,List.length_cons,List.length_nil];omega
structure Places (m:Sp):Prop where
 c:2≤countB m∧countB m≤5
 dy:dynB m=64+56*countB m
 sz:0≤sizeB m∧sizeB m≤16128
 st:strB m=dynB m+sizeB m
 sy:strB m+(tabB m).length≤symB m∧symB m≤strB m+(tabB m).length+7
 sn:0≤symN m∧symN m≤1001
 re:relB m=symB m+24*symN m
 rn:relN m=24*m.fx.length
 en:endB m=relB m+relN m
 co:endB m≤codeB m∧codeB m≤endB m+255
 da:codeB m+m.co.length≤dataB m∧dataB m≤codeB m+m.co.length+255
 tl:dataB m+m.da.length≤tlsB m∧tlsB m≤dataB m+m.da.length+7
theorem MayB.places {m:Sp} (h:MayB m):Places m:=by
 have h1:=h.dfl;refine ⟨count_bd m,rfl,size_bd h,rfl,up8 _,?_,rfl,rfl,rfl,up256 _,up256 _,up8 _⟩;unfold symN;split<;>omega
theorem Places.small {m:Sp} (p:Places m) (h:MayB m):0≤strB m∧strB m≤20000∧symB m≤90000∧relB m≤120000∧endB m≤150000∧codeB m≤151000∧dataB m≤220000∧tlsB m≤300000:=by
 have h1:=h.tab;have h2:=h.fxl;have h3:=h.sz;have h4:=p.c;have h5:=p.dy;have h6:=p.sz;have h7:=p.st;have h8:=p.sy;have h9:=p.sn;have h10:=p.re;have h11:=p.rn;have h12:=p.en;have h13:=p.co;have h14:=p.da;have h15:=p.tl;omega
def biB (m:Sp):Bi:=⟨(outB m).getD 0 0,strB m,(tabB m).length,symB m,symN m,relB m,relN m,dynB m,endB m,codeB m,dataB m,tlsB m⟩
structure BuOf (x:Bu) (m:Sp):Prop where
 i:x.i=biB m
 co:x.s.co.n=m.co.length
 da:x.s.da.n=m.da.length
 tl:x.s.tl.n=m.tl.length
 bs:x.s.bs=m.bs
 tb:x.s.tb=m.tb
 en:x.s.en=m.en
theorem wrap_id {x:Int} (h0:0≤x) (h1:x≤18446744073709551615):IntKind.u64.wrap x=x:=by rw [IntKind.wrap_u64];omega
theorem segN_id {ty fl a size bz:Int} (al:Int) (ha:(if ty=1 then (256:Int) else 8)=al) (h0:0≤size+bz) (h1:size+bz≤18446744073709551615):segN ty fl a size bz=⟨ty,fl,a,a,size,size+bz,al⟩:=by
 unfold segN;rw [wrap_id h0 h1,ha]
theorem dat_id {m:Sp} (h:MayB m):datN m.da.length m.tl.length (biB m)=datF m∧0≤datF m∧datF m≤200000∧(0<datF m↔0<m.da.length∨0<m.tl.length):=by
 have p:=h.places;have s:=p.small h;have h1:=p.tl;have h2:=p.da;have h3:=h.sz;have h4:=p.co;have h5:=p.en;have h6:=p.re;have h7:=p.sy;have h8:=p.sn;have h9:=p.rn;unfold datN datF;show (if 0<m.tl.length then IntKind.u64.wrap (IntKind.u64.wrap (tlsB m+m.tl.length)-dataB m) else (m.da.length:Int))=_∧_;by_cases c:0<m.tl.length
 ·rw [if_pos c,if_pos c,wrap_id (x:=tlsB m+(m.tl.length:Int)) (by omega) (by omega),wrap_id (by omega) (by omega)];omega
 ·rw [if_neg c,if_neg c];omega
theorem segs_eq {x:Bu} {m:Sp} (h:MayB m) (b:BuOf x m):segsN x=segsB m:=by
 have p:=h.places;have s:=p.small h;have h1:=p.tl;have h2:=p.da;have h3:=h.sz;have h4:=p.co;have h5:=p.en;have h6:=p.re;have h7:=p.sy;have h8:=p.sn;have h9:=p.rn;have h10:=p.st;have h11:=p.sz;have hbs:=h.bs;have htb:=h.tb;obtain ⟨d1,d2,d3,d4⟩:=dat_id h;unfold segsN segsB;rw [b.i,b.co,b.da,b.tl,b.bs,b.tb]
 congr 1
 ·congr 1
  ·congr 1
   ·unfold segs1;show [segN 1 4 0 (endB m) 0]++(if 0<m.co.length then [segN 1 5 (codeB m) m.co.length 0] else [])=_;rw [segN_id 256 rfl (by omega) (by omega),segN_id 256 rfl (by omega) (by omega),Int.add_zero,Int.add_zero]
    congr 1
    unfold hasC;by_cases c:0<m.co.length
    ·rw [if_pos c,if_pos (decide_eq_true c)]
    ·rw [if_neg c,if_neg (by rw [decide_eq_true_eq];exact c)]
   ·unfold segs2;rw [d1];show (if 0<datF m∨0<m.bs then [{ segN 1 6 (dataB m) (datF m) m.bs with ot:=if datF m=0 then 0 else dataB m }] else [])=_;rw [segN_id 256 rfl (by omega) (by omega)];unfold hasD;by_cases c:0<datF m∨0<m.bs
    ·rw [if_pos c];exact (if_pos (by rw [decide_eq_true_eq];rcases c with c | c;(rcases d4.1 c with c | c;exact .inl c;exact .inr (.inl c));exact .inr (.inr c))).symm
    ·rw [if_neg c,if_neg (by rw [decide_eq_true_eq];rintro (e | e | e);exact c (.inl (d4.2 (.inl e)));exact c (.inl (d4.2 (.inr e)));exact c (.inr e))]
  ·unfold segs3;show [segN 2 4 (dynB m) (IntKind.u64.wrap (strB m-dynB m)) 0]=_;rw [show strB m-dynB m=sizeB m by omega,wrap_id (by omega) (by omega),segN_id 8 rfl (by omega) (by omega),Int.add_zero]
 ·unfold segs4;show (if 0<m.tl.length then [segN 7 4 (tlsB m) m.tl.length m.tb] else if 0<m.tb then [segN 7 4 0 0 m.tb] else [])=_;rw [segN_id 8 rfl (by omega) (by omega),segN_id 8 rfl (by omega) (by omega)];unfold hasT;by_cases c:0<m.tl.length
  ·rw [if_pos c,if_pos (by rw [decide_eq_true_eq];exact .inl c),if_pos c]
  ·by_cases e:0<m.tb
   ·rw [if_neg c,if_pos e,if_pos (by rw [decide_eq_true_eq];exact .inr e),if_neg c,show ((m.tl.length:Nat):Int)=0 by omega]
   ·rw [if_neg c,if_neg e,if_neg (by rw [decide_eq_true_eq];rintro (z | z);exact c z;exact e z)]
theorem segsB_len (m:Sp):((segsB m).length:Int)=countB m:=by
 unfold segsB countB one;cases hasC m<;>cases hasD m<;>cases hasT m<;>rfl
theorem segs0_len (x:Bu) (m:Sp) (h:MayB m) (hco:x.s.co.n=m.co.length) (hda:x.s.da.n=m.da.length) (htl:x.s.tl.n=m.tl.length) (hbs:x.s.bs=m.bs) (htb:x.s.tb=m.tb) (hd:x.i.dp=0) (ht:x.i.tp=0):((segsN x).length:Int)=countB m:=by
 have h3:=h.sz;unfold segsN segs1 segs2 segs3 segs4 datN countB one hasC hasD hasT;rw [hco,hda,htl,hbs,htb,hd,ht];rw [show (0:Int)+(m.tl.length:Int)=m.tl.length by omega,wrap_id (x:=(m.tl.length:Int)) (by omega) (by omega),show (m.tl.length:Int)-0=m.tl.length by omega,wrap_id (x:=(m.tl.length:Int)) (by omega) (by omega)];have e:(if 0<m.tl.length then (m.tl.length:Int) else (m.da.length:Int)) > 0↔0<m.da.length∨0<m.tl.length:=by split<;>omega
 generalize (if 0<m.tl.length then (m.tl.length:Int) else (m.da.length:Int))=q at e;by_cases c1:0<m.co.length<;>by_cases c2:0<m.da.length<;>by_cases c3:0<m.tl.length<;>by_cases c4:0<m.bs<;>by_cases c5:0<m.tb<;>simp [c1,c2,c3,c4,c5] at e⊢<;>(try first | (simp [e,c4];done) | (simp [Int.not_lt.2 e,c4];done) | (simp [Int.not_lt.2 e,c4];omega) | (simp [e,c4];omega))<;>(try omega)
theorem entry_eq {x:Bu} {m:Sp} (b:BuOf x m):entryN x=entryB m:=by
 unfold entryN entryB hasC;rw [b.i,b.co,b.en];by_cases c:0<m.co.length
 ·rw [if_pos c,if_pos (by simpa using c)];rfl
 ·rw [if_neg c,if_neg (by simpa using c)]
theorem padB_len8 (zs:List Int):((padB zs 8).length:Int)=upI zs.length 8:=by
 unfold padB padN upI;rw [List.length_append,List.length_replicate];omega
theorem padB_len256 (zs:List Int):((padB zs 256).length:Int)=upI zs.length 256:=by
 unfold padB padN upI;rw [List.length_append,List.length_replicate];omega
theorem flat_len {α:Type} (f:α→List Int) (k:Nat) (h:∀x,(f x).length=k):∀L:List α,(L.flatMap f).length=k*L.length
 | []=>rfl
 | x :: L=>by rw [List.flatMap_cons,List.length_append,h,flat_len f k h L,List.length_cons,Nat.mul_succ];omega
theorem front_len (m:Sp):((frontB m).length:Int)=strB m:=by
 unfold frontB strB sizeB dynB;have e1:=enc_len m.k (entryB m) 64 (countB m);have e2:=flat_len encS 56 encS_len (segsB m);have e3:=putV_len m;have e4:=segsB_len m;generalize enc m.k (entryB m) 64 (countB m)=A at e1⊢;generalize (segsB m).flatMap encS=B at e2⊢;generalize putBy (needO m) (vB m)=C at e3⊢;generalize putBy (needO m) (v0B m)=D at e3⊢;generalize countB m=q at e4⊢;rw [List.length_append,List.length_append];omega
theorem head_len (m:Sp):((headB m).length:Int)=symB m:=by
 unfold headB;have h1:=front_len m;have h2:(((frontB m++tabB m).length:Nat):Int)=strB m+(tabB m).length:=by rw [List.length_append];omega
 rw [padB_len8,h2];rfl
theorem symsP_len (m:Sp):((symsP m).length:Int)=relB m:=by
 unfold symsP;rw [List.length_append,List.length_append,flat_len encY 24 encY_len];have:=head_len m;have h1:(symsB m m.df.length).length=m.df.length:=by unfold symsB;simp
 rw [h1];unfold relB symN;split
 ·rw [List.length_replicate];omega
 ·rw [List.length_nil];omega
theorem relsP_len (m:Sp):((relsP m).length:Int)=endB m:=by
 unfold relsP;rw [List.length_append,flat_len encL 24 encL_len];have:=symsP_len m;have h1:(relsB m m.fx.length).length=m.fx.length:=by unfold relsB;simp
 rw [h1];unfold endB relN;omega
theorem codeP_len (m:Sp):((codeP m).length:Int)=if 0<m.co.length then codeB m+m.co.length else endB m:=by
 unfold codeP hasC;have:=relsP_len m;by_cases c:0<m.co.length
 ·rw [if_pos (decide_eq_true c),if_pos c,List.length_append];have h2:((padB (relsP m) 256).length:Int)=upI (endB m) 256:=by have h3:=padB_len256 (relsP m);rw [relsP_len] at h3;exact h3
  unfold codeB;omega
 ·rw [if_neg (by rw [decide_eq_true_eq];exact c),if_neg c];exact this
theorem up_up (x:Int):upI (upI x 256) 256=upI x 256:=by unfold upI;omega
theorem up_codeP (m:Sp):upI (codeP m).length 256=dataB m:=by
 rw [codeP_len];by_cases c:0<m.co.length
 ·rw [if_pos c];rfl
 ·rw [if_neg c];unfold dataB codeB;rw [show ((m.co.length:Nat):Int)=0 by omega,Int.add_zero,up_up]
theorem dataP_len (m:Sp):((dataP m).length:Int)=if 0<m.da.length then dataB m+m.da.length else (codeP m).length:=by
 unfold dataP;by_cases c:0<m.da.length
 ·rw [if_pos c,if_pos c,List.length_append];have h2:((padB (codeP m) 256).length:Int)=dataB m:=by have h3:=padB_len256 (codeP m);rw [←up_codeP];exact h3
  omega
 ·rw [if_neg c,if_neg c]
theorem dataP_le (m:Sp):((dataP m).length:Int)≤tlsB m:=by
 have h1:=dataP_len m;have h2:=up8 (dataB m+m.da.length);have h3:=up_codeP m;have h4:=up256 (codeP m).length;unfold tlsB;split at h1<;>omega
theorem file_len {m:Sp} (h:MayB m):((fileB m).length:Int)=if 0<m.tl.length then tlsB m+m.tl.length else if 0<m.da.length then dataB m+m.da.length else if 0<m.co.length then codeB m+m.co.length else endB m:=by
 have s:=h.places.small h;have p:=h.places;have h1:=dataP_len m;have h2:=codeP_len m;have h3:=dataP_le m;have h4:=p.tl;unfold fileB;by_cases c:0<m.tl.length
 ·rw [if_pos c,if_pos c,List.length_append,List.length_append,List.length_replicate];omega
 ·rw [if_neg c,if_neg c,h1,h2]
theorem end_eq {x:Bu} {m:Sp} (h:MayB m) (b:BuOf x m):endN x=(fileB m).length:=by
 have p:=h.places;have s:=p.small h;have h1:=p.tl;have h2:=p.da;have h3:=h.sz;have h4:=p.co;have h5:=p.en;have h6:=p.re;have h7:=p.sy;have h8:=p.sn;have h9:=p.rn;rw [file_len h];unfold endN;rw [b.i,b.co,b.da,b.tl];show (if 0<m.tl.length then IntKind.u64.wrap (tlsB m+m.tl.length) else if 0<m.da.length then IntKind.u64.wrap (dataB m+m.da.length) else if 0<m.co.length then IntKind.u64.wrap (codeB m+m.co.length) else endB m)=_;rw [wrap_id (by omega) (by omega),wrap_id (by omega) (by omega),wrap_id (by omega) (by omega)]
theorem out_bd {m:Sp} (h:MayB m) (i:Nat):0≤(outB m).getD i 0∧(outB m).getD i 0≤65536:=by
 by_cases hi:i<(listB m).length
 ·unfold outB;rw [outs_getD _ hi];have h1:=h.tab;unfold tabB at h1;unfold pos;split
  ·exact ⟨by decide,by decide⟩
  ·have:=tab_mono (listB m) (firstAt_le (listB m) (nm (listB m) i) (listB m).length);omega
 ·have:(outB m).getD i 0=0:=by rw [List.getD_eq_getElem?_getD,List.getElem?_eq_none (by rw [outB_len,←listB_len];omega)];rfl
  rw [this];exact ⟨by decide,by decide⟩
theorem wrap32_id {x:Int} (h0:0≤x) (h1:x≤4294967295):IntKind.u32.wrap x=x:=by rw [IntKind.wrap_u32];omega
theorem symOf_eq {m:Sp} {d:Df} {p:Int} (hd:0≤d.wh∧d.wh≤3) (h0:0≤p∧p≤65536):symN9 (biB m) d p=symOf m d p:=by
 unfold symN9 symOf infoN kindN addrN;rw [wrap32_id h0.1 (by omega)];show (⟨p,_,0,_,(if d.wh=1 then IntKind.u64.wrap (codeB m+d.of) else if d.wh=2 then IntKind.u64.wrap (dataB m+d.of) else if d.wh=3 then d.of else 0),0⟩:Sy)=_;rw [Int.add_comm (codeB m),Int.add_comm (dataB m)];have h:d.wh=0∨d.wh=1∨d.wh=2∨d.wh=3:=by omega
 rcases h with e | e | e | e<;>rw [e]<;>rfl
theorem enc_zero:encY Sy.zero=List.replicate 24 0:=by decide
theorem symsB_eq {m:Sp} {b:Bm} (h:MayB m) (hm:b.m=m) (hi:b.i=biB m) (hp:b.pd=(outB m).drop (1+m.nd.length)) :
 (symsN b).flatMap encY=(if 0<m.df.length then List.replicate 24 0 else [])++(symsB m m.df.length).flatMap encY:=by
 have e:syms9 b m.df.length=symsB m m.df.length:=by
  unfold syms9 symsB;apply List.map_congr_left
  intro j hj;rw [List.mem_range] at hj;rw [hm,hi,hp];have e1:((outB m).drop (1+m.nd.length)).getD j 0=(outB m).getD (1+m.nd.length+j) 0:=by
   rw [List.getD_eq_getElem?_getD,List.getElem?_drop,←List.getD_eq_getElem?_getD]
  rw [e1];refine symOf_eq (h.df _ ?_) (out_bd h _);rw [List.getD_eq_getElem?_getD,List.getElem?_eq_getElem hj];exact List.getElem_mem hj
 unfold symsN;rw [hm,e];by_cases c:m.df.length=0
 ·rw [if_pos c,if_neg (by omega),c];rfl
 ·rw [if_neg c,if_pos (by omega),List.flatMap_cons,enc_zero]
theorem rels_eq {m:Sp} {b:Bm} (h:MayB m) (hm:b.m=m) (hi:b.i=biB m):relsN b m.fx.length=relsB m m.fx.length:=by
 unfold relsN relsB;apply List.map_congr_left
 intro j hj;rw [List.mem_range] at hj;rw [hm,hi];have hf:=h.fx (m.fx.getD j Fx.zero) (by rw [List.getD_eq_getElem?_getD,List.getElem?_eq_getElem hj];exact List.getElem_mem hj);generalize m.fx.getD j Fx.zero=f at hf;unfold relN9 relOf addrN;have hd:=h.dfl;have e1:(if 0≤f.df then IntKind.u32.wrap (1+IntKind.u32.wrap f.df) else 0)=(if 0≤f.df then f.df+1 else 0):=by
  split
  ·rw [wrap32_id (x:=f.df) (by omega) (by omega),wrap32_id (by omega) (by omega),Int.add_comm]
  ·rfl
 rw [e1];show (⟨(if f.wh=1 then IntKind.u64.wrap (codeB m+f.of) else if f.wh=2 then IntKind.u64.wrap (dataB m+f.of) else if f.wh=3 then f.of else 0),f.ty,_,f.ad⟩:Rl)=_;rw [Int.add_comm (codeB m),Int.add_comm (dataB m)];rcases hf.1 with e | e<;>rw [e]<;>rfl
def Zx (n:Nat) (R:List Int):List Int:=R++List.replicate (n-R.length) 0
theorem lay_none (F:List Int) (p:Nat):splice F p []=F:=by unfold splice;simp
theorem Zx_pad {n j:Nat} {R:List Int} (h:R.length+j≤n):Zx n (R++List.replicate j 0)=Zx n R:=by
 unfold Zx;rw [List.length_append,List.length_replicate,List.append_assoc,List.replicate_append_replicate]
 congr 2
 omega
theorem lay_at {n:Nat} {R ps:List Int} (h:R.length+ps.length≤n):splice (Zx n R) R.length ps=Zx n (R++ps):=by
 unfold splice Zx;rw [List.take_left,List.append_assoc]
 congr 2
 rw [List.drop_append,List.drop_eq_nil_of_le (by omega),List.nil_append,List.drop_replicate,List.length_append]
 congr 1
 omega
theorem lay_to {n p:Nat} {R ps:List Int} (h1:R.length≤p) (h2:p+ps.length≤n):splice (Zx n R) p ps=Zx n (R++(List.replicate (p-R.length) 0++ps)):=by
 have e:(R++List.replicate (p-R.length) (0:Int)).length=p:=by rw [List.length_append,List.length_replicate];omega
 rw [←Zx_pad (n:=n) (R:=R) (j:=p-R.length) (by omega),←List.append_assoc];have:=lay_at (n:=n) (R:=R++List.replicate (p-R.length) 0) (ps:=ps) (by omega);rw [e] at this;exact this
theorem Zx_full {n:Nat} {R:List Int} (h:R.length=n):Zx n R=R:=by unfold Zx;rw [h,Nat.sub_self];simp
theorem Zx_nil (n:Nat):Zx n []=List.replicate n 0:=by unfold Zx;simp
theorem pad_up (zs:List Int) (n:Nat) (p:Nat) (h:(padB zs n).length=p):padB zs n=zs++List.replicate (p-zs.length) 0:=by
 have:(padB zs n).length=zs.length+padN zs.length n:=by unfold padB;rw [List.length_append,List.length_replicate]
 unfold padB
 congr 2
 omega
theorem layAll_eq {m:Sp} (h:MayB m) (n Dy V1 V3 V5 Cp Dp Tp:Nat) (hn:(fileB m).length=n) (e1:dynB m=Dy) (e2:strB m=V1) (e3:symB m=V3) (e4:relB m=V5) (e5:codeB m=Cp) (e6:dataB m=Dp) (e7:tlsB m=Tp) (E4:List Int)
 (h4:E4=(if 0<m.df.length then List.replicate 24 0 else [])++(symsB m m.df.length).flatMap encY) :
 layAll n [(0,enc m.k (entryB m) 64 (countB m)),(64,(segsB m).flatMap encS),(Dy,putBy (needO m) (vB m)),(V1,tabB m),(V3,E4),(V5,(relsB m m.fx.length).flatMap encL),(Cp,m.co),(Dp,m.da),(Tp,m.tl)]=fileB m:=by
 have p:=h.places;have s:=p.small h;have hf:=file_len h;rw [hn] at hf;have p1:=p.tl;have p2:=p.da;have p3:=h.sz;have p4:=p.co;have p5:=p.en;have p6:=p.re;have p7:=p.sy;have p8:=p.sn;have p9:=p.rn;have p10:=p.st;have p11:=p.sz;have p12:=p.dy;have p13:=p.c;have l1:=front_len m;have l2:=head_len m;have l3:=symsP_len m;have l4:=relsP_len m;have l5:=codeP_len m;have l6:=dataP_len m;have l7:=dataP_le m;have hge:endB m≤n:=by split at hf;omega;split at hf;omega;split at hf<;>omega
 unfold layAll;simp only [List.foldl_cons,List.foldl_nil];rw [←Zx_nil];have a1:=enc_len m.k (entryB m) 64 (countB m);have a2:=flat_len encS 56 encS_len (segsB m);have a3:=putV_len m;have a4:=segsB_len m;have hfr:frontB m=enc m.k (entryB m) 64 (countB m)++(segsB m).flatMap encS++putBy (needO m) (vB m):=rfl;have hsz:sizeB m=(putBy (needO m) (v0B m)).length:=rfl;have hhd:headB m=padB (frontB m++tabB m) 8:=rfl;have hsy:symsP m=headB m++E4:=by rw [h4];rfl
 have hre:relsP m=symsP m++(relsB m m.fx.length).flatMap encL:=rfl;have hco:codeP m=if hasC m then padB (relsP m) 256++m.co else relsP m:=rfl;have hda:dataP m=if 0<m.da.length then padB (codeP m) 256++m.da else codeP m:=rfl;have hfl:fileB m=if 0<m.tl.length then dataP m++(List.replicate ((tlsB m).toNat-(dataP m).length) 0++m.tl) else dataP m:=rfl;have hup:=up_codeP m;have hcb:codeB m=upI (endB m) 256:=rfl;clear h4;generalize enc m.k (entryB m) 64 (countB m)=A1 at *;generalize (segsB m).flatMap encS=A2 at *;generalize putBy (needO m) (vB m)=A3 at *;generalize (relsB m m.fx.length).flatMap encL=A5 at *;generalize frontB m=FR at *;generalize headB m=HD at *;generalize symsP m=SY at *;generalize relsP m=RE at *;generalize codeP m=CO at *;generalize dataP m=DA at *;have b1:A1.length+A2.length+A3.length=FR.length:=by rw [hfr,List.length_append,List.length_append]
 have b2:HD.length+E4.length=SY.length:=by rw [hsy,List.length_append]
 have b3:SY.length+A5.length=RE.length:=by rw [hre,List.length_append]
 have s1:splice (Zx n []) 0 A1=Zx n A1:=lay_at (R:=[]) (by simp;omega);rw [s1];have s2:splice (Zx n A1) 64 A2=Zx n (A1++A2):=by have:=lay_at (n:=n) (R:=A1) (ps:=A2) (by omega);rw [a1] at this;exact this
 rw [s2];have d1:(A1++A2).length=Dy:=by rw [List.length_append];omega
 have s3:splice (Zx n (A1++A2)) Dy A3=Zx n FR:=by have:=lay_at (n:=n) (R:=A1++A2) (ps:=A3) (by omega);rw [d1] at this;rw [hfr];exact this
 rw [s3];have s4:splice (Zx n FR) V1 (tabB m)=Zx n HD:=by
  have h1:=lay_at (n:=n) (R:=FR) (ps:=tabB m) (by omega);rw [show FR.length=V1 by omega] at h1;rw [h1,hhd];unfold padB;refine (Zx_pad ?_).symm;have:(padB (FR++tabB m) 8).length=HD.length:=by rw [hhd]
  unfold padB at this;rw [List.length_append,List.length_replicate] at this;omega
 rw [s4];have s5:splice (Zx n HD) V3 E4=Zx n SY:=by have h1:=lay_at (n:=n) (R:=HD) (ps:=E4) (by omega);rw [show HD.length=V3 by omega] at h1;rw [hsy];exact h1
 rw [s5];have s6:splice (Zx n SY) V5 A5=Zx n RE:=by have h1:=lay_at (n:=n) (R:=SY) (ps:=A5) (by omega);rw [show SY.length=V5 by omega] at h1;rw [hre];exact h1
 rw [s6];have s7:splice (Zx n RE) Cp m.co=Zx n CO:=by
  by_cases c:0<m.co.length
  ·rw [if_pos c] at l5;unfold hasC at hco;rw [if_pos (decide_eq_true c)] at hco;have hpl:(padB RE 256).length=Cp:=by have h1:=padB_len256 RE;rw [l4,←hcb] at h1;omega
   rw [lay_to (by omega) (by (repeat' split at hf)<;>omega),hco,pad_up RE 256 Cp hpl,List.append_assoc]
  ·unfold hasC at hco;rw [if_neg (by rw [decide_eq_true_eq];exact c)] at hco;rw [List.eq_nil_of_length_eq_zero (show m.co.length=0 by omega),lay_none,hco]
 rw [s7];have s8:splice (Zx n CO) Dp m.da=Zx n DA:=by
  by_cases c:0<m.da.length
  ·rw [if_pos c] at hda;have hpl:(padB CO 256).length=Dp:=by have h1:=padB_len256 CO;rw [hup] at h1;omega
   have hle:CO.length≤Dp:=by rw [←hpl];unfold padB;rw [List.length_append];omega
   rw [lay_to hle (by (repeat' split at hf)<;>omega),hda,pad_up CO 256 Dp hpl,List.append_assoc]
  ·rw [if_neg c] at hda;rw [List.eq_nil_of_length_eq_zero (show m.da.length=0 by omega),lay_none,hda]
 rw [s8];by_cases c:0<m.tl.length
 ·rw [if_pos c] at hfl hf;rw [lay_to (by omega) (by omega),hfl,show (tlsB m).toNat=Tp by omega];refine Zx_full ?_;rw [List.length_append,List.length_append,List.length_replicate];omega
 ·rw [if_neg c] at hfl;rw [List.eq_nil_of_length_eq_zero (show m.tl.length=0 by omega),lay_none,hfl];refine Zx_full ?_;rw [←hn,hfl]

def validN (m:Sp):Bool:=!(m.df.any badDf) && !(m.fx.any (badFx m.df.length)) && (m.k==2 || m.k==3)
theorem valid9_any (B:Nat) (x:Spv) (m:Sp) (w:World) (h:x.Is w B m) (hB:B≤w.heap.size) (l4:m.df.length≤1000000) (l5:m.fx.length≤1000000) :
 Calls Tryz.prog 27 #[x.val] w fun r w'=>r=.returned (.bool (validN m))∧Below w.heap.size w w':=by
 obtain ⟨R,hR⟩:∃R,validN m=R:=⟨_,rfl⟩
 rw [hR];have hk:=h.k;have HDF:=Lib.hid h.df;have HFX:=Lib.hid h.fx;have hdf:=h.df.hl;have hfx:=h.fx.hl;obtain ⟨k,so,⟨nda,ndn,ndc⟩,en,⟨coa,con,coc⟩,⟨daa,dan,dac⟩,bz,⟨tla,tln,tlc⟩,tz,⟨dfa,dfn,dfc⟩,⟨fxa,fxn,fxc⟩⟩:=x;simp only at hk hdf hfx HDF HFX;have HXD:Hid (∀q,q<dfn→badDf (m.df.getD q Df.zero)=true→R=false):=Lib.hid (fun q hq h=>by rw [←hR];unfold validN;rw [any_at Df.zero (by rw [hdf];exact hq) h];rfl);have HXF:Hid (∀q,q<fxn→badFx dfn (m.fx.getD q Fx.zero)=true→R=false):=Lib.hid (fun q hq h=>by rw [←hR];unfold validN;rw [hdf,any_at Fx.zero (by rw [hfx];exact hq) h];simp);have HEN:Hid ((∀q,q<dfn→badDf (m.df.getD q Df.zero)=false)→(∀q,q<fxn→badFx dfn (m.fx.getD q Fx.zero)=false)→R=(k==2 || k==3)):=Lib.hid (fun h1 h2=>by
  rw [←hR];unfold validN;rw [hdf,any_no Df.zero (by rw [hdf];exact h1),any_no Fx.zero (by rw [hfx];exact h2),hk];rfl)
 rw [hdf] at l4;rw [hfx] at l5;have i4:(dfn:Int)≤1000000:=by omega
 have i5:(fxn:Int)≤1000000:=by omega
 have HMB:=Lib.hid (fun w1=>maybe9_any k w1);clear h hR hk hdf hfx l4 l5;unfold Spv.val;simp only
 have HBE0:Hid (Below w.heap.size w (w.alloc (.cells #[.int .i64 k,.string so,.slice nda ndn ndc,.int .u64 en,.slice coa con coc,.slice daa dan dac,.int .u64 bz,.slice tla tln tlc,.int .u64 tz,.slice dfa dfn dfc,.slice fxa fxn fxc] 47))):=Lib.hid ((Below.refl _ _).alloc (Nat.le_refl _) _);have HBX0:Hid (Blk (w.alloc (.cells #[.int .i64 k,.string so,.slice nda ndn ndc,.int .u64 en,.slice coa con coc,.slice daa dan dac,.int .u64 bz,.slice tla tln tlc,.int .u64 tz,.slice dfa dfn dfc,.slice fxa fxn fxc] 47)) w.heap.size #[.int .i64 k,.string so,.slice nda ndn ndc,.int .u64 en,.slice coa con coc,.slice daa dan dac,.int .u64 bz,.slice tla tln tlc,.int .u64 tz,.slice dfa dfn dfc,.slice fxa fxn fxc] 47):=Lib.hid (Blk.new _ _ _);go_enter Tryz.func27,Tryz.ntmps27
 go_wp2;go_loopw [10] (fun i wr=>∃q:Nat,q≤dfn∧i=.int .i64 q∧(∀j,j<q→badDf (m.df.getD j Df.zero)=false)∧Below w.heap.size w wr∧Blk wr w.heap.size #[.int .i64 k,.string so,.slice nda ndn ndc,.int .u64 en,.slice coa con coc,.slice daa dan dac,.int .u64 bz,.slice tla tln tlc,.int .u64 tz,.slice dfa dfn dfc,.slice fxa fxn fxc] 47) (fun i _=>dfn-(intOf i).toNat)
 case atStart=>exact ⟨0,Nat.zero_le _,rfl,fun j hj=>absurd hj (by omega),HBE0.out,HBX0.out⟩
 case round=>
  obtain ⟨q,hq,rfl,hno,hbel,hblk⟩:=hrel;have HB:=Lib.hid hbel;have HK:=Lib.hid hblk;have hsz:=hbel.size;by_cases hlt:q<dfn
  ·obtain ⟨b,off,hdfa,hbB,hcell⟩:=HDF.out.hc (by omega);subst hdfa;have hbw0:b<w.heap.size:=Nat.lt_of_lt_of_le hbB hB;obtain ⟨c0,c1,c2,c3⟩:=(hcell q hlt).below hbel hbw0;have hbw:b<wr.heap.size:=by omega
   have hqi:(q:Int)<dfn:=by omega
   have HX1:=Lib.hid (HXD.out q hlt);have HNX:=Lib.hid (fun h=>no_upto (P:=fun j=>badDf (m.df.getD j Df.zero)=false) hno h);have hok:=(HDF.out.okAt hlt).wh;generalize m.df.getD q Df.zero=d at c0 c1 c2 c3 HX1 HNX hok;obtain ⟨dn,dw,dof,dk⟩:=d;simp only at c0 c1 c2 c3 hok;obtain ⟨hw0,hw1⟩:=hok;have HBA:Hid (Below w.heap.size w (wr.alloc (.cells #[.string dn,.int .i64 dw,.int .u64 dof,.bool dk] 61))):=Lib.hid (hbel.alloc hsz _);have HKA:=Lib.hid (hblk.alloc (.cells #[.string dn,.int .i64 dw,.int .u64 dof,.bool dk] 61));clear hcell hno hbel hblk;by_cases hn:dw<0
   ·have HE:=Lib.hid (HX1.out (by unfold badDf;rw [decide_eq_true_eq];exact .inl hn));go_wp2;go_ret;exact ⟨by rw [HE.out];rfl,HBA.out⟩
   ·by_cases h3:3<dw
    ·have HE:=Lib.hid (HX1.out (by unfold badDf;rw [decide_eq_true_eq];exact .inr h3));go_wp2;go_ret;exact ⟨by rw [HE.out];rfl,HBA.out⟩
    ·have HN:=Lib.hid (HNX.out (by unfold badDf;rw [decide_eq_false_iff_not];simp only;omega));go_wp2;go_roundw
     case rel=>exact ⟨q+1,by omega,by go_num,HN.out,HBA.out,HKA.out⟩
     case measure=>(simp [intOf]<;>omega)
  ·obtain rfl:q=dfn:=by omega
   have HEN2:=Lib.hid (HEN.out hno);have hfz:wr.cell? ⟨w.heap.size,10,none⟩=some (.slice fxa fxn fxc):=hblk.cell 10;have hlw:=hblk.lt;clear hno hlt hbel hblk HEN HXD HBE0 HBX0;go_wp2;obtain ⟨wo,hwo⟩:∃wo:World,wo=wr:=⟨_,rfl⟩
   go_loopw [26] (fun i wr=>∃z:Nat,z≤fxn∧i=.int .i64 z∧(∀j,j<z→badFx q (m.fx.getD j Fx.zero)=false)∧Below w.heap.size w wr∧Blk wr w.heap.size #[.int .i64 k,.string so,.slice nda ndn ndc,.int .u64 en,.slice coa con coc,.slice daa dan dac,.int .u64 bz,.slice tla tln tlc,.int .u64 tz,.slice dfa q dfc,.slice fxa fxn fxc] 47) (fun i _=>fxn-(intOf i).toNat)
   case atStart=>exact ⟨0,Nat.zero_le _,rfl,fun j hj=>absurd hj (by omega),HB.out,HK.out⟩
   case round=>
    clear hwo hfz hlw HB HK;obtain ⟨z,hz,rfl,hno,hbel,hblk⟩:=hrel;have HB:=Lib.hid hbel;have HK:=Lib.hid hblk;have hsz:=hbel.size;have hlw:=hblk.lt;by_cases hlt:z<fxn
    ·obtain ⟨b,off,hfxa,hbB,hcell⟩:=HFX.out.hc (by omega);subst hfxa;have hbw0:b<w.heap.size:=Nat.lt_of_lt_of_le hbB hB;obtain ⟨c0,c1,c2,c3,c4⟩:=(hcell z hlt).below hbel hbw0;have hbw:b<wr.heap.size:=by omega
     have hzi:(z:Int)<fxn:=by omega
     have HX1:=Lib.hid (HXF.out z hlt);have HNX:=Lib.hid (fun h=>no_upto (P:=fun j=>badFx q (m.fx.getD j Fx.zero)=false) hno h);have hok:=HFX.out.okAt hlt;generalize m.fx.getD z Fx.zero=f at c0 c1 c2 c3 c4 HX1 HNX hok;have hw:=hok.wh;have hd:=hok.df;obtain ⟨fw,fo,ft,fd,fa⟩:=f;simp only at c0 c1 c2 c3 c4 hw hd;obtain ⟨hw0,hw1⟩:=hw;obtain ⟨hd0,hd1⟩:=hd;have HBA:Hid (Below w.heap.size w (wr.alloc (.cells #[.int .i64 fw,.int .u64 fo,.int .u32 ft,.int .i64 fd,.int .i64 fa] 101))):=Lib.hid (hbel.alloc hsz _);have HKA:=Lib.hid (hblk.alloc (.cells #[.int .i64 fw,.int .u64 fo,.int .u32 ft,.int .i64 fd,.int .i64 fa] 101));have q9:wr.cell? ⟨w.heap.size,9,none⟩=some (.slice dfa q dfc):=hblk.cell 9;clear hcell hno hbel hblk hok;by_cases h12:fw=1∨fw=2
     ·have e1:(fw != 1 && fw != 2)=false:=by rcases h12 with h | h<;>rw [h]<;>rfl
      by_cases hdd:(q:Int)≤fd
      ·have HE:=Lib.hid (HX1.out (by unfold badFx;rw [decide_eq_true_eq];exact .inr hdd));rcases h12 with h | h
       ·have b1:(fw != 1)=false:=by rw [h];rfl
        clear h e1;go_wp2;go_ret;exact ⟨by rw [HE.out];rfl,HBA.out⟩
       ·have b1:(fw != 1)=true:=by rw [h];rfl
        have b2:(fw != 2)=false:=by rw [h];rfl
        clear h e1;go_wp2;go_ret;exact ⟨by rw [HE.out];rfl,HBA.out⟩
      ·have HN:=Lib.hid (HNX.out (by unfold badFx;rw [decide_eq_false_iff_not];simp only;omega));rcases h12 with h | h
       ·have b1:(fw != 1)=false:=by rw [h];rfl
        clear h e1;go_wp2;go_roundw
        case rel=>exact ⟨z+1,by omega,by go_num,HN.out,HBA.out,HKA.out⟩
        case measure=>(simp [intOf]<;>omega)
       ·have b1:(fw != 1)=true:=by rw [h];rfl
        have b2:(fw != 2)=false:=by rw [h];rfl
        clear h e1;go_wp2;go_roundw
        case rel=>exact ⟨z+1,by omega,by go_num,HN.out,HBA.out,HKA.out⟩
        case measure=>(simp [intOf]<;>omega)
     ·have HE:=Lib.hid (HX1.out (by unfold badFx;rw [decide_eq_true_eq];exact .inl ⟨fun e=>h12 (.inl e),fun e=>h12 (.inr e)⟩));have b1:(fw != 1)=true:=by rw [bne_iff_ne];exact fun h=>h12 (.inl h)
      have b2:(fw != 2)=true:=by rw [bne_iff_ne];exact fun h=>h12 (.inr h)
      clear h12;go_wp2;go_ret;exact ⟨by rw [HE.out];rfl,HBA.out⟩
    ·obtain rfl:z=fxn:=by omega
     have HEN3:=Lib.hid (HEN2.out hno);have q0:wr.cell? ⟨w.heap.size,0,none⟩=some (.int .i64 k):=hblk.cell 0;clear hno hbel hblk;go_wp2_with fail;refine (HMB.out _).mono ?_;rintro r w5 ⟨rfl,rfl⟩;go_wp2;go_ret;exact ⟨by rw [HEN3.out];rfl,HB.out⟩
def smallN (m:Sp):Bool:=decide (m.bs≤1048576∧m.tb≤1048576∧m.co.length+m.da.length+m.tl.length≤65536)
theorem small9_any (B:Nat) (x:Spv) (m:Sp) (w:World) (h:x.Is w B m) (l1:m.co.length≤1000000) (l2:m.da.length≤1000000) (l3:m.tl.length≤1000000) :
 Calls Tryz.prog 28 #[x.val] w fun r w'=>r=.returned (.bool (smallN m))∧Below w.heap.size w w':=by
 obtain ⟨R,hR⟩:∃R,smallN m=R:=⟨_,rfl⟩
 rw [hR];have hbs:=h.bs;have htb:=h.tb;have h1:=h.co.1;have h2:=h.da.1;have h3:=h.tl.1;have bbs:=h.bbs;have btb:=h.btb;obtain ⟨k,so,⟨nda,ndn,ndc⟩,en,⟨coa,con,coc⟩,⟨daa,dan,dac⟩,bz,⟨tla,tln,tlc⟩,tz,⟨dfa,dfn,dfc⟩,⟨fxa,fxn,fxc⟩⟩:=x;simp only at hbs htb h1 h2 h3;unfold smallN at hR;rw [h1,h2,h3,←hbs,←htb] at hR;rw [h1] at l1;rw [h2] at l2;rw [h3] at l3;rw [←hbs] at bbs;rw [←htb] at btb;obtain ⟨b0,b1⟩:=bbs;obtain ⟨t0,t1⟩:=btb;have i1:(con:Int)≤1000000:=by omega
 have i2:(dan:Int)≤1000000:=by omega
 have i3:(tln:Int)≤1000000:=by omega
 clear h hbs htb h1 h2 h3;unfold Spv.val;simp only
 have HB:Hid (Below w.heap.size w (w.alloc (.cells #[.int .i64 k,.string so,.slice nda ndn ndc,.int .u64 en,.slice coa con coc,.slice daa dan dac,.int .u64 bz,.slice tla tln tlc,.int .u64 tz,.slice dfa dfn dfc,.slice fxa fxn fxc] 47))):=Lib.hid ((Below.refl _ _).alloc (Nat.le_refl _) _);have HR:=Lib.hid hR;clear hR;by_cases c1:bz≤1048576
 ·by_cases c2:tz≤1048576
  ·by_cases c3:con+dan+tln≤65536
   ·have c3i:(con:Int)+dan+tln≤65536:=by omega
    have HE:Hid (R=true):=Lib.hid (by rw [←HR.out,decide_eq_true_eq];exact ⟨c1,c2,c3⟩);clear c3;go_enter Tryz.func28,Tryz.ntmps28
    go_wp2;go_ret;exact ⟨by rw [HE.out];rfl,HB.out⟩
   ·have c3i:¬(con:Int)+dan+tln≤65536:=by omega
    have HE:Hid (R=false):=Lib.hid (by rw [←HR.out,decide_eq_false_iff_not];exact fun h=>c3 h.2.2);clear c3;go_enter Tryz.func28,Tryz.ntmps28
    go_wp2;go_ret;exact ⟨by rw [HE.out];rfl,HB.out⟩
  ·have HE:Hid (R=false):=Lib.hid (by rw [←HR.out,decide_eq_false_iff_not];exact fun h=>c2 h.2.1);go_enter Tryz.func28,Tryz.ntmps28
   go_wp2;go_ret;exact ⟨by rw [HE.out];rfl,HB.out⟩
 ·have HE:Hid (R=false):=Lib.hid (by rw [←HR.out,decide_eq_false_iff_not];exact fun h=>c1 h.1);go_enter Tryz.func28,Tryz.ntmps28
  go_wp2;go_ret;exact ⟨by rw [HE.out];rfl,HB.out⟩
theorem wpList_append_strs9 {P:Program} {w:World} {ops:Array Oper} {rest:List Oper} {o:Oper} {a:Act} {Q:Exit→Act→World→Prop} (hgd:o.guard=none) (s x:Operand) (t:TypeId)
 (ho:o.op=.call { callee:=.builtin .append,args:=#[s,x],argTypes:=#[t,t] })
 (base:Nat) (e:TypeId) (i:TypeInfo) (z:Value) (bytes:Nat) (ht:P.underlying t=some (.slice e)) (hi:P.info? e=some i) (hz:i.zero=some z)
 (hsize:i.size=1) (hby:i.bytes=bytes) (hzs:z.cells.size=1)
 (v:Value) (n:Nat) (xs:List Value) (hs:a.eval s=v) (hown:w.ownsRow base e 1 v n xs)
 (ad:Option Addr) (m c:Nat) (B:Nat) (L:List ByteArray) (hx:a.eval x=.slice ad m c) (hst:Strs w B ad m L) (hc:ad=none→c=0)
 (h63:n+m≤maxLen) (hbytes:(n+m)*bytes≤140737488355328) (hbase:base≤w.heap.size)
 (h:∀v' w',w'.ownsRow base e 1 v' (n+m) (xs++L.map Value.string)→w.grownBy w' v.ownBlock→wpList P ops Q rest (a.put o.dst v') w'):wpList P ops Q (o :: rest) a w:=by
 cases ad with
 | none=>
   have hm:m=0:=by
    rcases Nat.eq_zero_or_pos m with h0 | h0
    ·exact h0
    ·obtain ⟨b,off,e,_⟩:=hst.2 h0;cases e
   subst hm;have hL:L=[]:=List.eq_nil_of_length_eq_zero hst.1;subst hL;obtain rfl:=hc rfl;refine wpList_append_own_none hgd s x t ho base e i 1 ht hi v n xs hs hown hx (h v w ?_ ⟨rfl,rfl,rfl,Nat.le_refl _,fun _ _ _=>rfl⟩);simpa using hown
 | some ad=>
   refine wpList_append_own w hgd s x t ho base e i z 1 bytes ht hi hz hsize hby hzs (by decide) v n xs hs hown ad m c (L.map Value.string) hx (by rw [List.length_map,hst.1];omega) ?_ (one_str L) h63 hbytes hbase (fun v' w' h1 h2 _=>h v' w' h1 h2);intro j u hj;have hjm:j<m:=by
    have:=(List.getElem?_eq_some_iff.1 hj).1;rw [List.length_map,hst.1] at this;exact this
   obtain ⟨b,off,e,_,hcell⟩:=hst.2 (by omega);injection e with e;subst e;exact Strs.src hst.1 hcell j u hj
theorem names_snoc {L:List Df} {q:Nat} (h:q<L.length):(L.take (q+1)).map (·.nm)=(L.take q).map (·.nm)++[(L.getD q Df.zero).nm]:=by
 rw [Df.take_snoc h,List.map_append];rfl
theorem names9_any (B:Nat) (x:Spv) (m:Sp) (w:World) (h:x.Is w B m) (hB:B≤w.heap.size) (hnil:x.nd.a=none→x.nd.c=0) (l1:m.nd.length≤1000000) (l4:m.df.length≤1000000) :
 Calls Tryz.prog 30 #[x.val] w fun r w'=>(∃u,r=.returned u∧w'.ownsRow w.heap.size 9 1 u (listB m).length ((listB m).map Value.string))∧Below w.heap.size w w':=by
 obtain ⟨i0,hI,hz0,hz1,hz2⟩:=info_parts info_str;have HI:=Lib.hid hI;have HZ0:=Lib.hid hz0;have HZ1:=Lib.hid hz1;have HZ2:=Lib.hid hz2;have HND:=Lib.hid h.nd;have HDF:=Lib.hid h.df;have HNIL:=Lib.hid hnil;have hso:=h.so;have hnl:=h.nd.1;have hdl:=h.df.hl;obtain ⟨k,so,⟨nda,ndn,ndc⟩,en,⟨coa,con,coc⟩,⟨daa,dan,dac⟩,bz,⟨tla,tln,tlc⟩,tz,⟨dfa,dfn,dfc⟩,⟨fxa,fxn,fxc⟩⟩:=x;simp only at HND HDF HNIL hso hnl hdl;subst hso;have HNL:=Lib.hid hnl;have HDL:=Lib.hid hdl;have hl1:ndn≤1000000:=by omega
 have hl4:dfn≤1000000:=by omega
 have i4:(dfn:Int)≤1000000:=by omega
 obtain ⟨LB,hLB⟩:∃LB,listB m=LB:=⟨_,rfl⟩
 rw [hLB];have HLB:Hid (LB=(m.so :: m.nd)++(m.df.take dfn).map (·.nm)):=Lib.hid (by rw [←hLB];unfold listB;rw [List.take_of_length_le (by omega)];rfl);clear h hI hz0 hz1 hz2 hnil hnl hdl l1 l4 hLB;unfold Spv.val;simp only
 obtain ⟨C,hC⟩:∃C:Array Value,C=#[.int .i64 k,.string m.so,.slice nda ndn ndc,.int .u64 en,.slice coa con coc,.slice daa dan dac,.int .u64 bz,.slice tla tln tlc,.int .u64 tz,.slice dfa dfn dfc,.slice fxa fxn fxc]:=⟨_,rfl⟩
 have HCC:Hid (∀wx,Blk wx w.heap.size C 47→Blk wx w.heap.size #[.int .i64 k,.string m.so,.slice nda ndn ndc,.int .u64 en,.slice coa con coc,.slice daa dan dac,.int .u64 bz,.slice tla tln tlc,.int .u64 tz,.slice dfa dfn dfc,.slice fxa fxn fxc] 47):=Lib.hid (fun wx h=>by rw [←hC];exact h);have HST0:Hid (RowSt w ((w.alloc (.cells #[.int .i64 k,.string m.so,.slice nda ndn ndc,.int .u64 en,.slice coa con coc,.slice daa dan dac,.int .u64 bz,.slice tla tln tlc,.int .u64 tz,.slice dfa dfn dfc,.slice fxa fxn fxc] 47)).alloc (.cells #[.string m.so] 9)) C 47 9 1 (.slice (some ⟨w.heap.size+1,0,none⟩) 1 1) 1 [.string m.so]):=Lib.hid
  ⟨⟨rfl,.inr ⟨_,_,_,rfl,Nat.le_refl _,by have:=Blk.new (w.alloc (.cells #[.int .i64 k,.string m.so,.slice nda ndn ndc,.int .u64 en,.slice coa con coc,.slice daa dan dac,.int .u64 bz,.slice tla tln tlc,.int .u64 tz,.slice dfa dfn dfc,.slice fxa fxn fxc] 47)) #[.string m.so] 9;rw [World.size_alloc] at this;exact this,Nat.le_refl _,by decide,rfl,rfl⟩⟩,by rw [hC];exact (Blk.new _ _ _).alloc _,((Below.refl _ _).alloc (Nat.le_refl _) _).alloc (by simp) _⟩
 have HNB:Hid (Strs ((w.alloc (.cells #[.int .i64 k,.string m.so,.slice nda ndn ndc,.int .u64 en,.slice coa con coc,.slice daa dan dac,.int .u64 bz,.slice tla tln tlc,.int .u64 tz,.slice dfa dfn dfc,.slice fxa fxn fxc] 47)).alloc (.cells #[.string m.so] 9)) B nda ndn m.nd):=Lib.hid (HND.out.below ((((Below.refl _ _).alloc (Nat.le_refl _) _).alloc (by simp) _).mono hB));clear hC;go_enter Tryz.func30,Tryz.ntmps30
 go_wp2_with (at_builtin;refine wpList_append_strs9 rfl _ _ 28 rfl (w.heap.size+1) 9 i0 (.string .empty) 16 Tryz.underlying28 HI.out HZ0.out HZ1.out HZ2.out rfl _ 1 _ rfl HST0.out.own _ ndn ndc _ m.nd rfl HNB.out HNIL.out ?e1 ?e2 ?e3 ?_);case e1=>unfold maxLen;omega
 case e2=>omega
 case e3=>simp
 intro v2 w2 hown2 hg2;have HST1:Hid (RowSt w w2 C 47 9 1 v2 (1+ndn) ((m.so :: m.nd).map Value.string)):=Lib.hid
  ⟨hown2,HST0.out.box.grown hg2 (fun e=>by have:=(HST0.out.own.lt _ e.symm).1;omega),HST0.out.bel.grown hg2 HST0.out.bel.size (fun q e=>by have:=(HST0.out.own.lt q e).1;omega)⟩
 have hbx:=HCC.out _ HST1.out.box;have q9:w2.cell? ⟨w.heap.size,9,none⟩=some (.slice dfa dfn dfc):=hbx.cell 9;have hlw:=hbx.lt;obtain ⟨va,vc,hva,-,-⟩:=row_slice hown2;subst hva;clear hown2 hg2 hbx HST0 HNB;go_wp2;go_loopw [3,15] (fun l i wr=>∃(q:Nat) (Z:List ByteArray),q≤dfn∧i=.int .i64 q∧Z=(m.so :: m.nd)++(m.df.take q).map (·.nm)∧RowSt w wr C 47 9 1 l (1+ndn+q) (Z.map Value.string)) (fun _ i _=>dfn-(intOf i).toNat)
 case atStart=>exact ⟨0,m.so :: m.nd,Nat.zero_le _,rfl,by simp,HST1.out⟩
 case round=>
  obtain ⟨q,Z,hq,rfl,hZ,hst⟩:=hrel;have HZZ:=Lib.hid hZ;clear hZ;have HST:=Lib.hid hst;obtain ⟨la,lc,rfl,-,-⟩:=row_slice hst.own;by_cases hlt:q<dfn
  ·have hqi:(q:Int)<dfn:=by omega
   obtain ⟨b,off,hdfa,hbB,hcell⟩:=HDF.out.hc (by omega);subst hdfa;have hbw0:b<w.heap.size:=Nat.lt_of_lt_of_le hbB hB;obtain ⟨c0,c1,c2,c3⟩:=(hcell q hlt).below hst.bel hbw0;have hbw:b<wr.heap.size:=Nat.lt_of_lt_of_le hbw0 hst.bel.size;have HSU:=Lib.hid (names_snoc (L:=m.df) (q:=q) (by rw [HDL.out];exact hlt));clear hcell hst;generalize m.df.getD q Df.zero=d at c0 c1 c2 c3 HSU;obtain ⟨dn,dw,dof,dk⟩:=d;simp only at c0 c1 c2 c3 HSU;have HSA:=Lib.hid (HST.out.alloc (.cells #[.string dn,.int .i64 dw,.int .u64 dof,.bool dk] 61));go_wp2_with (at_builtin;refine wpList_append_own _ rfl _ _ 28 rfl (w.heap.size+1) 9 i0 _ 1 16 Tryz.underlying28 HI.out HZ0.out HZ1.out HZ2.out rfl (by decide) _ (1+ndn+q) _ rfl (HSA.out.alloc _).own _ 1 1 [.string dn] rfl rfl ?d1 ?d2 ?d3 ?d4 ?d5 ?_);try (case d1=>exact lit_cells (wr.alloc _) [.string dn] _ _ (by simp))
   case d2=>first | (intro u hu;obtain rfl:=List.mem_singleton.1 hu;rfl) | rfl | simp
   case d3=>unfold maxLen;omega
   case d4=>omega
   case d5=>have:=HSA.out.box.lt;simp at this;simp;omega
   intro v4 w4 hown4 hg4 _;have HA:Hid (RowSt w w4 C 47 9 1 v4 (1+ndn+(q+1)) ((Z++[dn]).map Value.string)):=Lib.hid (HSA.out.app (by rw [List.map_append];exact hown4) hg4);have HZ9:Hid (Z++[dn]=(m.so :: m.nd)++(m.df.take (q+1)).map (·.nm)):=Lib.hid (by rw [HSU.out,HZZ.out,List.append_assoc]);clear hown4 hg4;go_wp2;go_roundw
   case rel=>exact ⟨q+1,Z++[dn],by omega,by go_num,HZ9.out,HA.out⟩
   case measure=>(simp [intOf]<;>omega)
  ·obtain rfl:q=dfn:=by omega
   have HLN:Hid (LB.length=1+ndn+q):=Lib.hid (by rw [HLB.out];simp [HNL.out,HDL.out];omega);clear hst;go_wp2;go_ret;refine ⟨⟨_,rfl,?_⟩,HST.out.bel⟩;rw [HLN.out,HLB.out,←HZZ.out];exact own_base9 HST.out.own (Nat.le_succ _)
theorem parts_fit {m:Sp} (h:MayB m) (n Dy V1 V3 V5 Cp Dp Tp:Nat) (hn:(fileB m).length=n) (e1:dynB m=Dy) (e2:strB m=V1) (e3:symB m=V3) (e4:relB m=V5) (e5:codeB m=Cp) (e6:dataB m=Dp) (e7:tlsB m=Tp) (E4:List Int)
 (h4:E4=(if 0<m.df.length then List.replicate 24 0 else [])++(symsB m m.df.length).flatMap encY) :
 64≤n∧64+((segsB m).flatMap encS).length≤n∧Dy+(putBy (needO m) (vB m)).length≤n∧V1+(tabB m).length≤n∧(E4.length=0∨V3+E4.length≤n)∧(((relsB m m.fx.length).flatMap encL).length=0∨V5+((relsB m m.fx.length).flatMap encL).length≤n)∧
 (m.co.length=0∨Cp+m.co.length≤n)∧(m.da.length=0∨Dp+m.da.length≤n)∧(m.tl.length=0∨Tp+m.tl.length≤n)∧V3≤1000000∧V5≤1000000∧Cp≤1000000∧Dp≤1000000∧Tp≤1000000:=by
 have p:=h.places;have s:=p.small h;have hf:=file_len h;rw [hn] at hf;have p1:=p.tl;have p2:=p.da;have p3:=h.sz;have p4:=p.co;have p5:=p.en;have p6:=p.re;have p7:=p.sy;have p8:=p.sn;have p9:=p.rn;have p10:=p.st;have p11:=p.sz;have p12:=p.dy;have p13:=p.c;have hge:endB m≤n:=by (repeat' split at hf)<;>omega
 have a2:=flat_len encS 56 encS_len (segsB m);have a3:=putV_len m;have a4:=segsB_len m;have hsz:sizeB m=(putBy (needO m) (v0B m)).length:=rfl;have a5:=flat_len encL 24 encL_len (relsB m m.fx.length);have a6:(relsB m m.fx.length).length=m.fx.length:=by unfold relsB;simp
 have a7:=flat_len encY 24 encY_len (symsB m m.df.length);have a8:(symsB m m.df.length).length=m.df.length:=by unfold symsB;simp
 have a9:(E4.length:Int)=24*symN m:=by
  rw [h4,List.length_append,a7,a8];unfold symN;split
  ·rw [List.length_replicate];omega
  ·rw [List.length_nil];omega
 generalize (segsB m).flatMap encS=A2 at *;generalize putBy (needO m) (vB m)=A3 at *;generalize (relsB m m.fx.length).flatMap encL=A5 at *;refine ⟨by omega,by omega,by omega,by omega,.inr (by omega),.inr (by omega),?_,?_,?_,by omega,by omega,by omega,by omega,by omega⟩
 ·by_cases c:m.co.length=0
  ·exact .inl c
  ·exact .inr (by (repeat' split at hf)<;>omega)
 ·by_cases c:m.da.length=0
  ·exact .inl c
  ·exact .inr (by (repeat' split at hf)<;>omega)
 ·by_cases c:m.tl.length=0
  ·exact .inl c
  ·exact .inr (by (repeat' split at hf)<;>omega)
theorem mk_sg {a b c d e f g:Int} (h0:0≤a∧a≤4294967295) (h1:0≤b∧b≤4294967295) (h2:0≤c∧c≤18446744073709551615) (h3:0≤d∧d≤18446744073709551615) (h4:0≤e∧e≤18446744073709551615) (h5:0≤f∧f≤18446744073709551615) (h6:0≤g∧g≤18446744073709551615):Sg.Ok ⟨a,b,c,d,e,f,g⟩:=⟨h0,h1,h2,h3,h4,h5,h6⟩
theorem mk_sy {a b c d e f:Int} (h0:0≤a∧a≤4294967295) (h1:0≤b∧b≤255) (h2:0≤c∧c≤255) (h3:0≤d∧d≤65535) (h4:0≤e∧e≤18446744073709551615) (h5:0≤f∧f≤18446744073709551615):Sy.Ok ⟨a,b,c,d,e,f⟩:=⟨h0,h1,h2,h3,h4,h5⟩
theorem mk_rl {a b c d:Int} (h0:0≤a∧a≤18446744073709551615) (h1:0≤b∧b≤4294967295) (h2:0≤c∧c≤4294967295) (h3:-9223372036854775808≤d∧d≤9223372036854775807):Rl.Ok ⟨a,b,c,d⟩:=⟨h0,h1,h2,h3⟩
theorem segs_ok {m:Sp} (h:MayB m):∀s∈segsB m,s.Ok:=by
 have p:=h.places;have s:=p.small h;have p1:=p.tl;have p2:=p.da;have p3:=h.sz;have p4:=p.co;have p5:=p.en;have p6:=p.re;have p7:=p.sy;have p8:=p.sn;have p9:=p.rn;have p10:=p.st;have p11:=p.sz;have p12:=p.dy;have p13:=p.c;have hbs:=h.bs;have htb:=h.tb;obtain ⟨d1,d2,d3,d4⟩:=dat_id h;intro z hz;unfold segsB at hz;simp only [List.mem_append] at hz;rcases hz with (((hz | hz) | hz) | hz) | hz
 ·obtain rfl:=List.mem_singleton.1 hz;exact mk_sg (by decide) (by decide) (by decide) (by decide) (by omega) (by omega) (by decide)
 ·split at hz
  ·obtain rfl:=List.mem_singleton.1 hz;exact mk_sg (by decide) (by decide) (by omega) (by omega) (by omega) (by omega) (by decide)
  ·cases hz
 ·split at hz
  ·obtain rfl:=List.mem_singleton.1 hz;exact mk_sg (by decide) (by decide) (by split<;>omega) (by omega) (by omega) (by omega) (by decide)
  ·cases hz
 ·obtain rfl:=List.mem_singleton.1 hz;exact mk_sg (by decide) (by decide) (by omega) (by omega) (by omega) (by omega) (by decide)
 ·split at hz
  ·obtain rfl:=List.mem_singleton.1 hz;exact mk_sg (by decide) (by decide) (by split<;>omega) (by split<;>omega) (by omega) (by omega) (by decide)
  ·cases hz
theorem wrap_bd (x:Int):0≤IntKind.u64.wrap x∧IntKind.u64.wrap x≤18446744073709551615:=by rw [IntKind.wrap_u64];omega
theorem sym_ok {m:Sp} {d:Df} {p:Int} (hd:0≤d.wh∧d.wh≤3) (ho:u64B d.of) (h0:0≤p∧p≤65536):(symOf m d p).Ok:=by
 unfold symOf;refine mk_sy ⟨h0.1,by omega⟩ ?_ (by decide) ?_ ?_ (by decide)
 ·(repeat' split)<;>omega
 ·split<;>decide
 ·split
  ·decide
  ·split
   ·exact wrap_bd _
   ·split
    ·exact wrap_bd _
    ·exact ho
theorem symsN_ok {m:Sp} {b:Bm} (h:MayB m) (hm:b.m=m) (hi:b.i=biB m) (hp:b.pd=(outB m).drop (1+m.nd.length)):∀s∈symsN b,s.Ok:=by
 intro s hs;unfold symsN at hs;rw [hm] at hs;split at hs
 ·cases hs
 ·rcases List.mem_cons.1 hs with rfl | hs
  ·constructor<;>decide
  ·unfold syms9 at hs;obtain ⟨j,hj,rfl⟩:=List.mem_map.1 hs;rw [List.mem_range] at hj;have e1:((outB m).drop (1+m.nd.length)).getD j 0=(outB m).getD (1+m.nd.length+j) 0:=by
    rw [List.getD_eq_getElem?_getD,List.getElem?_drop,←List.getD_eq_getElem?_getD]
   have hmem:m.df.getD j Df.zero∈m.df:=by rw [List.getD_eq_getElem?_getD,List.getElem?_eq_getElem hj];exact List.getElem_mem hj
   rw [hm,hi,hp,e1,symOf_eq (h.df _ hmem) (out_bd h _)];exact sym_ok (h.df _ hmem) (h.dok _ hmem) (out_bd h _)
theorem relsN_ok {m:Sp} (h:MayB m):∀s∈relsB m m.fx.length,s.Ok:=by
 intro s hs;unfold relsB at hs;obtain ⟨j,hj,rfl⟩:=List.mem_map.1 hs;rw [List.mem_range] at hj;have hmem:m.fx.getD j Fx.zero∈m.fx:=by rw [List.getD_eq_getElem?_getD,List.getElem?_eq_getElem hj];exact List.getElem_mem hj
 have h1:=h.fx _ hmem;have h2:=h.fok _ hmem;have h3:=h.dfl;generalize m.fx.getD j Fx.zero=f at h1 h2;unfold relOf;refine mk_rl ?_ h2.2.1 ?_ h2.2.2
 ·split<;>exact wrap_bd _
 ·split<;>omega
theorem biB_ok {m:Sp} (h:MayB m):(biB m).Ok:=by
 have p:=h.places;have s:=p.small h;have p1:=p.tl;have p2:=p.da;have p3:=h.sz;have p4:=p.co;have p5:=p.en;have p6:=p.re;have p7:=p.sy;have p8:=p.sn;have p9:=p.rn;have p10:=p.st;have p11:=p.sz;have p12:=p.dy;have p13:=p.c;have ht:=h.tab;have ho:=out_bd h 0;have hf:=h.fxl;unfold biB;refine ⟨⟨ho.1,?_⟩,⟨?_,?_⟩,⟨?_,?_⟩,⟨?_,?_⟩,⟨?_,?_⟩,⟨?_,?_⟩,⟨?_,?_⟩,⟨?_,?_⟩,⟨?_,?_⟩,⟨?_,?_⟩,⟨?_,?_⟩,⟨?_,?_⟩⟩;all_goals simp only
 all_goals omega
theorem Nus.sub {w:World} {B b n:Nat} {O:List Int} (h:Nus w B (some ⟨b,0,none⟩) n O) (k j p:Nat) (hk:k+j≤n) (hp:j=0∨p=k):Nus w B (some ⟨b,p,none⟩) j ((O.drop k).take j):=by
 have hl:=h.hl;refine ⟨by rw [List.length_take,List.length_drop];omega,fun z hz=>h.bd z (List.mem_of_mem_drop (List.mem_of_mem_take hz)),fun hj=>?_⟩;obtain ⟨b',o',e,hb,hc⟩:=h.hc (by omega);injection e with e;injection e with e1 e2;subst e1;subst e2;refine ⟨b,p,rfl,hb,fun i hi=>?_⟩;have:=hc (k+i) (by omega);rw [Nat.zero_add] at this;rw [show p=k by omega,this]
 congr 2
 rw [List.getD_eq_getElem?_getD,List.getD_eq_getElem?_getD,List.getElem?_take_of_lt hi,List.getElem?_drop]
theorem valid_iff (m:Sp):validN m=true↔(m.df.any badDf=false∧m.fx.any (badFx m.df.length)=false∧(m.k=2∨m.k=3)):=by
 unfold validN;rw [Bool.and_eq_true,Bool.and_eq_true,Bool.not_eq_true',Bool.not_eq_true',Bool.or_eq_true,beq_iff_eq,beq_iff_eq];exact ⟨fun ⟨⟨a,b⟩,c⟩=>⟨a,b,c⟩,fun ⟨a,b,c⟩=>⟨⟨a,b⟩,c⟩⟩
theorem build_no {m:Sp} (h:validN m=false):buildI m=(1,[]):=by
 have e:mayI m=1:=by
  unfold mayI;by_cases hk:m.k≠2∧m.k≠3
  ·rw [if_pos hk]
  ·rw [if_neg hk];cases h1:m.df.any badDf with
   | true=>rfl
   | false=>
     cases h2:m.fx.any (badFx m.df.length) with
     | true=>rfl
     | false=>
       exfalso
       have:=(valid_iff m).2 ⟨h1,h2,by omega⟩;rw [h] at this;cases this
 unfold buildI;rw [e];rfl
theorem may_small {m:Sp} (h:validN m=true):mayI m=if smallN m=true then 0 else 13:=by
 obtain ⟨h1,h2,h3⟩:=(valid_iff m).1 h;unfold mayI smallN;rw [if_neg (by omega),h1,h2,if_neg (by decide),if_neg (by decide)];by_cases c:m.bs≤1048576∧m.tb≤1048576∧m.co.length+m.da.length+m.tl.length≤65536
 ·rw [if_neg (by omega),if_pos (decide_eq_true c)]
 ·rw [if_pos (by omega),if_neg (by rw [decide_eq_true_eq];exact c)]
theorem build_great {m:Sp} (h:validN m=true) (hs:smallN m=false):buildI m=(13,[]):=by
 unfold buildI;rw [may_small h,hs];rfl
theorem build_dirty {m:Sp} (h:validN m=true) (hs:smallN m=true) (hc:cleanB (listB m)=false):buildI m=(1,[]):=by
 unfold buildI;rw [may_small h,hs,if_neg (by decide),if_pos hc]
theorem build_long {m:Sp} (h:validN m=true) (hs:smallN m=true) (hc:cleanB (listB m)=true) (ht:65536<(tabB m).length):buildI m=(13,[]):=by
 unfold buildI;rw [may_small h,hs,if_neg (by decide),if_neg (by rw [hc];decide),if_pos ht]
theorem build_file {m:Sp} (h:validN m=true) (hs:smallN m=true) (hc:cleanB (listB m)=true) (ht:(tabB m).length≤65536):buildI m=if 65536<(fileB m).length then (13,[]) else (0,fileB m):=by
 unfold buildI;rw [may_small h,hs,if_neg (by decide),if_neg (by rw [hc];decide),if_neg (by omega)]
structure PlS (w wx:World) (gx:Nat) (C S:Array Value):Prop where
 box:Blk wx gx C 84
 spec:Blk wx w.heap.size S 47
 res:Blk wx (w.heap.size+1) #[.int .i64 0,.string ⟨#[]⟩,.slice none 0 0,.int .u64 0,.slice none 0 0,.slice none 0 0,.int .u64 0,.slice none 0 0,.int .u64 0,.slice none 0 0,.slice none 0 0,.slice none 0 0,.slice none 0 0,.slice none 0 0,.int .u64 0,.int .u64 0,.int .u64 0,.int .u64 0,.int .u64 0,.int .u64 0,.int .u64 0,.int .u64 0,.int .u64 0,.int .u64 0,.int .u64 0,.int .u64 0] 84
 bel:Below w.heap.size w wx
 lt:w.heap.size+1<gx
theorem PlS.later {w wx w':World} {gx:Nat} {C S:Array Value} (h:PlS w wx gx C S) (hb:Below wx.heap.size wx w'):PlS w w' gx C S:=⟨h.box.later hb,h.spec.later hb,h.res.later hb,h.bel.trans (hb.mono h.bel.size),h.lt⟩
theorem PlS.drew {w wx:World} {gx:Nat} {C S:Array Value} (h:PlS w wx gx C S):PlS w wx.drew gx C S:=h.later (Below.refl _ _).drew
theorem PlS.set {w wx:World} {gx:Nat} {C C' S:Array Value} (h:PlS w wx gx C S) (i:Nat) (v:Value) (hc:C.setIfInBounds i v=C'):PlS w (wx.setCell ⟨gx,i,none⟩ v) gx C' S:=by
 have hl:=h.lt;exact ⟨by rw [←hc];exact h.box.set i v,h.spec.setOther (by show w.heap.size≠gx;omega) v,h.res.setOther (by show w.heap.size+1≠gx;omega) v,h.bel.setCell (by show w.heap.size≤gx;omega) v,hl⟩
def PlanPost (V:Array Value) (w:World) (e:Ending) (w':World):Prop:=e=.returned (.agg V)∧Below w.heap.size w w'
theorem fr114 (y:Nat→Value):frameOf 114 y=#[y 0,y 1,y 2,y 3,y 4,y 5,y 6,y 7,y 8,y 9,y 10,y 11,y 12,y 13,y 14,y 15,y 16,y 17,y 18,y 19,y 20,y 21,y 22,y 23,y 24,y 25,y 26,y 27,y 28,y 29,y 30,y 31,y 32,y 33,y 34,y 35,y 36,y 37,y 38,y 39,y 40,y 41,y 42,y 43,y 44,y 45,y 46,y 47,y 48,y 49,y 50,y 51,y 52,y 53,y 54,y 55,y 56,y 57,y 58,y 59,y 60,y 61,y 62,y 63,y 64,y 65,y 66,y 67,y 68,y 69,y 70,y 71,y 72,y 73,y 74,y 75,y 76,y 77,y 78,y 79,y 80,y 81,y 82,y 83,y 84,y 85,y 86,y 87,y 88,y 89,y 90,y 91,y 92,y 93,y 94,y 95,y 96,y 97,y 98,y 99,y 100,y 101,y 102,y 103,y 104,y 105,y 106,y 107,y 108,y 109,y 110,y 111,y 112,y 113]:=rfl
theorem putBy_bound (N V:List Int):(putBy N V).length≤16*(N.length+8):=by
 unfold putBy;rw [entsB_len];unfold putEs sevenD;simp only [List.length_append,List.length_map,List.length_cons,List.length_nil];have:=List.length_filter_le (keepD V) (List.range 7);rw [List.length_range] at this;omega
end Go.Proofs.YtclgbdfkdbbinaaGreat
