/-
  What is proved here: words and contracts, a part of those that the statement rests on (C16).
  Conditions: none but that the arguments are values of their types.
-/
import Derived.Test.YtclgbdfkdbbinaaGreatC6
import Derived.Test.YtclgbdfkdbbinaaGreatC7
import Derived.Test.YtclgbdfkdbbinaaGreatC15
import Derived.Test.YtclgbdfkdbbinaaGreatC5
import Derived.Test.YtclgbdfkdbbinaaGreatC1
import Derived.BigQuiet
import Derived.Deep.QuietTactic
import Derived.Deep.Cut
import Derived.Deep.DeepCutAuto
set_option linter.unusedVariables false
set_option linter.unusedSimpArgs false
set_option maxRecDepth 100000
set_option maxHeartbeats 12800000
namespace Go.Proofs.YtclgbdfkdbbinaaGreat
open Go.RowKit
structure MayB (m:Sp):Prop where
 k:m.k=2∨m.k=3
 df:∀d∈m.df,0≤d.wh∧d.wh≤3
 fx:∀f∈m.fx,(f.wh=1∨f.wh=2)∧f.df<m.df.length
 bs:0≤m.bs∧m.bs≤1048576
 tb:0≤m.tb∧m.tb≤1048576
 sz:m.co.length+m.da.length+m.tl.length≤65536
 en:u64B m.en
 tab:(tabB m).length≤65536
 nd:m.nd.length≤1000
 dfl:m.df.length≤1000
 fxl:m.fx.length≤1000
 dok:∀d∈m.df,u64B d.of
 fok:∀f∈m.fx,u64B f.of∧(0≤f.ty∧f.ty≤4294967295)∧(-9223372036854775808≤f.ad∧f.ad≤9223372036854775807)
theorem up8 (x:Int):x≤upI x 8∧upI x 8≤x+7:=by unfold upI;omega
theorem up256 (x:Int):x≤upI x 256∧upI x 256≤x+255:=by unfold upI;omega
theorem count_bd (m:Sp):2≤countB m∧countB m≤5:=by unfold countB one;split<;>split<;>split<;>omega
theorem keep_vB (m:Sp):keepD (vB m)=keepD (v0B m):=rfl
theorem putV_len (m:Sp):(putBy (needO m) (vB m)).length=(putBy (needO m) (v0B m)).length:=by
 unfold putBy;rw [entsB_len,entsB_len];unfold putEs sevenD;rw [keep_vB];simp only [List.length_append,List.length_map]
theorem size_bd {m:Sp} (h:MayB m):0≤sizeB m∧sizeB m≤16128:=by
 unfold sizeB putBy;rw [entsB_len];unfold putEs sevenD;have:=List.length_filter_le (keepD (v0B m)) (List.range 7);rw [List.length_range] at this;have h1:=needO_len m;have h2:=h.nd;simp only [List.length_append,List.length_map,List.length_cons,List.length_nil];omega
structure Places (m:Sp):Prop where
 c:2≤countB m∧countB m≤5
 dy:dynB m=64+56*countB m
 sz:0≤sizeB m∧sizeB m≤16128
 st:strB m=dynB m+sizeB m
 sy:strB m+(tabB m).length≤symB m∧symB m≤strB m+(tabB m).length+7
 sn:0≤symN m∧symN m≤1001
 re:relB m=symB m+24*symN m
 rn:relN m=24*m.fx.length
 en:endB m=relB m+relN m
 co:endB m≤codeB m∧codeB m≤endB m+255
 da:codeB m+m.co.length≤dataB m∧dataB m≤codeB m+m.co.length+255
 tl:dataB m+m.da.length≤tlsB m∧tlsB m≤dataB m+m.da.length+7
theorem MayB.places {m:Sp} (h:MayB m):Places m:=by
 have h1:=h.dfl;refine ⟨count_bd m,rfl,size_bd h,rfl,up8 _,?_,rfl,rfl,rfl,up256 _,up256 _,up8 _⟩;unfold symN;split<;>omega
theorem Places.small {m:Sp} (p:Places m) (h:MayB m):0≤strB m∧strB m≤20000∧symB m≤90000∧relB m≤120000∧endB m≤150000∧codeB m≤151000∧dataB m≤220000∧tlsB m≤300000:=by
 have h1:=h.tab;have h2:=h.fxl;have h3:=h.sz;have h4:=p.c;have h5:=p.dy;have h6:=p.sz;have h7:=p.st;have h8:=p.sy;have h9:=p.sn;have h10:=p.re;have h11:=p.rn;have h12:=p.en;have h13:=p.co;have h14:=p.da;have h15:=p.tl;omega
def biB (m:Sp):Bi:=⟨(outB m).getD 0 0,strB m,(tabB m).length,symB m,symN m,relB m,relN m,dynB m,endB m,codeB m,dataB m,tlsB m⟩
structure BuOf (x:Bu) (m:Sp):Prop where
 i:x.i=biB m
 co:x.s.co.n=m.co.length
 da:x.s.da.n=m.da.length
 tl:x.s.tl.n=m.tl.length
 bs:x.s.bs=m.bs
 tb:x.s.tb=m.tb
 en:x.s.en=m.en
theorem wrap_id {x:Int} (h0:0≤x) (h1:x≤18446744073709551615):IntKind.u64.wrap x=x:=by rw [IntKind.wrap_u64];omega
theorem segN_id {ty fl a size bz:Int} (al:Int) (ha:(if ty=1 then (256:Int) else 8)=al) (h0:0≤size+bz) (h1:size+bz≤18446744073709551615):segN ty fl a size bz=⟨ty,fl,a,a,size,size+bz,al⟩:=by
 unfold segN;rw [wrap_id h0 h1,ha]
theorem dat_id {m:Sp} (h:MayB m):datN m.da.length m.tl.length (biB m)=datF m∧0≤datF m∧datF m≤200000∧(0<datF m↔0<m.da.length∨0<m.tl.length):=by
 have p:=h.places;have s:=p.small h;have h1:=p.tl;have h2:=p.da;have h3:=h.sz;have h4:=p.co;have h5:=p.en;have h6:=p.re;have h7:=p.sy;have h8:=p.sn;have h9:=p.rn;unfold datN datF;show (if 0<m.tl.length then IntKind.u64.wrap (IntKind.u64.wrap (tlsB m+m.tl.length)-dataB m) else (m.da.length:Int))=_∧_;by_cases c:0<m.tl.length
 ·rw [if_pos c,if_pos c,wrap_id (x:=tlsB m+(m.tl.length:Int)) (by omega) (by omega),wrap_id (by omega) (by omega)];omega
 ·rw [if_neg c,if_neg c];omega
theorem segs_eq {x:Bu} {m:Sp} (h:MayB m) (b:BuOf x m):segsN x=segsB m:=by
 have p:=h.places;have s:=p.small h;have h1:=p.tl;have h2:=p.da;have h3:=h.sz;have h4:=p.co;have h5:=p.en;have h6:=p.re;have h7:=p.sy;have h8:=p.sn;have h9:=p.rn;have h10:=p.st;have h11:=p.sz;have hbs:=h.bs;have htb:=h.tb;obtain ⟨d1,d2,d3,d4⟩:=dat_id h;unfold segsN segsB;rw [b.i,b.co,b.da,b.tl,b.bs,b.tb]
 congr 1
 ·congr 1
  ·congr 1
   ·unfold segs1;show [segN 1 4 0 (endB m) 0]++(if 0<m.co.length then [segN 1 5 (codeB m) m.co.length 0] else [])=_;rw [segN_id 256 rfl (by omega) (by omega),segN_id 256 rfl (by omega) (by omega),Int.add_zero,Int.add_zero]
    congr 1
    unfold hasC;by_cases c:0<m.co.length
    ·rw [if_pos c,if_pos (decide_eq_true c)]
    ·rw [if_neg c,if_neg (by rw [decide_eq_true_eq];exact c)]
   ·unfold segs2;rw [d1];show (if 0<datF m∨0<m.bs then [{ segN 1 6 (dataB m) (datF m) m.bs with ot:=if datF m=0 then 0 else dataB m }] else [])=_;rw [segN_id 256 rfl (by omega) (by omega)];unfold hasD;by_cases c:0<datF m∨0<m.bs
    ·rw [if_pos c];exact (if_pos (by rw [decide_eq_true_eq];rcases c with c | c;(rcases d4.1 c with c | c;exact .inl c;exact .inr (.inl c));exact .inr (.inr c))).symm
    ·rw [if_neg c,if_neg (by rw [decide_eq_true_eq];rintro (e | e | e);exact c (.inl (d4.2 (.inl e)));exact c (.inl (d4.2 (.inr e)));exact c (.inr e))]
  ·unfold segs3;show [segN 2 4 (dynB m) (IntKind.u64.wrap (strB m-dynB m)) 0]=_;rw [show strB m-dynB m=sizeB m by omega,wrap_id (by omega) (by omega),segN_id 8 rfl (by omega) (by omega),Int.add_zero]
 ·unfold segs4;show (if 0<m.tl.length then [segN 7 4 (tlsB m) m.tl.length m.tb] else if 0<m.tb then [segN 7 4 0 0 m.tb] else [])=_;rw [segN_id 8 rfl (by omega) (by omega),segN_id 8 rfl (by omega) (by omega)];unfold hasT;by_cases c:0<m.tl.length
  ·rw [if_pos c,if_pos (by rw [decide_eq_true_eq];exact .inl c),if_pos c]
  ·by_cases e:0<m.tb
   ·rw [if_neg c,if_pos e,if_pos (by rw [decide_eq_true_eq];exact .inr e),if_neg c,show ((m.tl.length:Nat):Int)=0 by omega]
   ·rw [if_neg c,if_neg e,if_neg (by rw [decide_eq_true_eq];rintro (z | z);exact c z;exact e z)]
theorem segsB_len (m:Sp):((segsB m).length:Int)=countB m:=by
 unfold segsB countB one;cases hasC m<;>cases hasD m<;>cases hasT m<;>rfl
theorem segs0_len (x:Bu) (m:Sp) (h:MayB m) (hco:x.s.co.n=m.co.length) (hda:x.s.da.n=m.da.length) (htl:x.s.tl.n=m.tl.length) (hbs:x.s.bs=m.bs) (htb:x.s.tb=m.tb) (hd:x.i.dp=0) (ht:x.i.tp=0):((segsN x).length:Int)=countB m:=by
 have h3:=h.sz;unfold segsN segs1 segs2 segs3 segs4 datN countB one hasC hasD hasT;rw [hco,hda,htl,hbs,htb,hd,ht];rw [show (0:Int)+(m.tl.length:Int)=m.tl.length by omega,wrap_id (x:=(m.tl.length:Int)) (by omega) (by omega),show (m.tl.length:Int)-0=m.tl.length by omega,wrap_id (x:=(m.tl.length:Int)) (by omega) (by omega)];have e:(if 0<m.tl.length then (m.tl.length:Int) else (m.da.length:Int)) > 0↔0<m.da.length∨0<m.tl.length:=by split<;>omega
 generalize (if 0<m.tl.length then (m.tl.length:Int) else (m.da.length:Int))=q at e;by_cases c1:0<m.co.length<;>by_cases c2:0<m.da.length<;>by_cases c3:0<m.tl.length<;>by_cases c4:0<m.bs<;>by_cases c5:0<m.tb<;>simp [c1,c2,c3,c4,c5] at e⊢<;>(try first | (simp [e,c4];done) | (simp [Int.not_lt.2 e,c4];done) | (simp [Int.not_lt.2 e,c4];omega) | (simp [e,c4];omega))<;>(try omega)
theorem entry_eq {x:Bu} {m:Sp} (b:BuOf x m):entryN x=entryB m:=by
 unfold entryN entryB hasC;rw [b.i,b.co,b.en];by_cases c:0<m.co.length
 ·rw [if_pos c,if_pos (by simpa using c)];rfl
 ·rw [if_neg c,if_neg (by simpa using c)]
theorem padB_len8 (zs:List Int):((padB zs 8).length:Int)=upI zs.length 8:=by
 unfold padB padN upI;rw [List.length_append,List.length_replicate];omega
theorem padB_len256 (zs:List Int):((padB zs 256).length:Int)=upI zs.length 256:=by
 unfold padB padN upI;rw [List.length_append,List.length_replicate];omega
theorem flat_len {α:Type} (f:α→List Int) (k:Nat) (h:∀x,(f x).length=k):∀L:List α,(L.flatMap f).length=k*L.length
 | []=>rfl
 | x :: L=>by rw [List.flatMap_cons,List.length_append,h,flat_len f k h L,List.length_cons,Nat.mul_succ];omega
theorem front_len (m:Sp):((frontB m).length:Int)=strB m:=by
 unfold frontB strB sizeB dynB;have e1:=enc_len m.k (entryB m) 64 (countB m);have e2:=flat_len encS 56 encS_len (segsB m);have e3:=putV_len m;have e4:=segsB_len m;generalize enc m.k (entryB m) 64 (countB m)=A at e1⊢;generalize (segsB m).flatMap encS=B at e2⊢;generalize putBy (needO m) (vB m)=C at e3⊢;generalize putBy (needO m) (v0B m)=D at e3⊢;generalize countB m=q at e4⊢;rw [List.length_append,List.length_append];omega
theorem head_len (m:Sp):((headB m).length:Int)=symB m:=by
 unfold headB;have h1:=front_len m;have h2:(((frontB m++tabB m).length:Nat):Int)=strB m+(tabB m).length:=by rw [List.length_append];omega
 rw [padB_len8,h2];rfl
theorem symsP_len (m:Sp):((symsP m).length:Int)=relB m:=by
 unfold symsP;rw [List.length_append,List.length_append,flat_len encY 24 encY_len];have:=head_len m;have h1:(symsB m m.df.length).length=m.df.length:=by unfold symsB;simp
 rw [h1];unfold relB symN;split
 ·rw [List.length_replicate];omega
 ·rw [List.length_nil];omega
theorem relsP_len (m:Sp):((relsP m).length:Int)=endB m:=by
 unfold relsP;rw [List.length_append,flat_len encL 24 encL_len];have:=symsP_len m;have h1:(relsB m m.fx.length).length=m.fx.length:=by unfold relsB;simp
 rw [h1];unfold endB relN;omega
theorem codeP_len (m:Sp):((codeP m).length:Int)=if 0<m.co.length then codeB m+m.co.length else endB m:=by
 unfold codeP hasC;have:=relsP_len m;by_cases c:0<m.co.length
 ·rw [if_pos (decide_eq_true c),if_pos c,List.length_append];have h2:((padB (relsP m) 256).length:Int)=upI (endB m) 256:=by have h3:=padB_len256 (relsP m);rw [relsP_len] at h3;exact h3
  unfold codeB;omega
 ·rw [if_neg (by rw [decide_eq_true_eq];exact c),if_neg c];exact this
theorem up_up (x:Int):upI (upI x 256) 256=upI x 256:=by unfold upI;omega
theorem up_codeP (m:Sp):upI (codeP m).length 256=dataB m:=by
 rw [codeP_len];by_cases c:0<m.co.length
 ·rw [if_pos c];rfl
 ·rw [if_neg c];unfold dataB codeB;rw [show ((m.co.length:Nat):Int)=0 by omega,Int.add_zero,up_up]
theorem dataP_len (m:Sp):((dataP m).length:Int)=if 0<m.da.length then dataB m+m.da.length else (codeP m).length:=by
 unfold dataP;by_cases c:0<m.da.length
 ·rw [if_pos c,if_pos c,List.length_append];have h2:((padB (codeP m) 256).length:Int)=dataB m:=by have h3:=padB_len256 (codeP m);rw [←up_codeP];exact h3
  omega
 ·rw [if_neg c,if_neg c]
theorem dataP_le (m:Sp):((dataP m).length:Int)≤tlsB m:=by
 have h1:=dataP_len m;have h2:=up8 (dataB m+m.da.length);have h3:=up_codeP m;have h4:=up256 (codeP m).length;unfold tlsB;split at h1<;>omega
theorem file_len {m:Sp} (h:MayB m):((fileB m).length:Int)=if 0<m.tl.length then tlsB m+m.tl.length else if 0<m.da.length then dataB m+m.da.length else if 0<m.co.length then codeB m+m.co.length else endB m:=by
 have s:=h.places.small h;have p:=h.places;have h1:=dataP_len m;have h2:=codeP_len m;have h3:=dataP_le m;have h4:=p.tl;unfold fileB;by_cases c:0<m.tl.length
 ·rw [if_pos c,if_pos c,List.length_append,List.length_append,List.length_replicate];omega
 ·rw [if_neg c,if_neg c,h1,h2]
theorem end_eq {x:Bu} {m:Sp} (h:MayB m) (b:BuOf x m):endN x=(fileB m).length:=by
 have p:=h.places;have s:=p.small h;have h1:=p.tl;have h2:=p.da;have h3:=h.sz;have h4:=p.co;have h5:=p.en;have h6:=p.re;have h7:=p.sy;have h8:=p.sn;have h9:=p.rn;rw [file_len h];unfold endN;rw [b.i,b.co,b.da,b.tl];show (if 0<m.tl.length then IntKind.u64.wrap (tlsB m+m.tl.length) else if 0<m.da.length then IntKind.u64.wrap (dataB m+m.da.length) else if 0<m.co.length then IntKind.u64.wrap (codeB m+m.co.length) else endB m)=_;rw [wrap_id (by omega) (by omega),wrap_id (by omega) (by omega),wrap_id (by omega) (by omega)]
theorem out_bd {m:Sp} (h:MayB m) (i:Nat):0≤(outB m).getD i 0∧(outB m).getD i 0≤65536:=by
 by_cases hi:i<(listB m).length
 ·unfold outB;rw [outs_getD _ hi];have h1:=h.tab;unfold tabB at h1;unfold pos;split
  ·exact ⟨by decide,by decide⟩
  ·have:=tab_mono (listB m) (firstAt_le (listB m) (nm (listB m) i) (listB m).length);omega
 ·have:(outB m).getD i 0=0:=by rw [List.getD_eq_getElem?_getD,List.getElem?_eq_none (by rw [outB_len,←listB_len];omega)];rfl
  rw [this];exact ⟨by decide,by decide⟩
theorem wrap32_id {x:Int} (h0:0≤x) (h1:x≤4294967295):IntKind.u32.wrap x=x:=by rw [IntKind.wrap_u32];omega
theorem symOf_eq {m:Sp} {d:Df} {p:Int} (hd:0≤d.wh∧d.wh≤3) (h0:0≤p∧p≤65536):symN9 (biB m) d p=symOf m d p:=by
 unfold symN9 symOf infoN kindN addrN;rw [wrap32_id h0.1 (by omega)];show (⟨p,_,0,_,(if d.wh=1 then IntKind.u64.wrap (codeB m+d.of) else if d.wh=2 then IntKind.u64.wrap (dataB m+d.of) else if d.wh=3 then d.of else 0),0⟩:Sy)=_;rw [Int.add_comm (codeB m),Int.add_comm (dataB m)];have h:d.wh=0∨d.wh=1∨d.wh=2∨d.wh=3:=by omega
 rcases h with e | e | e | e<;>rw [e]<;>rfl
theorem enc_zero:encY Sy.zero=List.replicate 24 0:=by decide
theorem symsB_eq {m:Sp} {b:Bm} (h:MayB m) (hm:b.m=m) (hi:b.i=biB m) (hp:b.pd=(outB m).drop (1+m.nd.length)) :
 (symsN b).flatMap encY=(if 0<m.df.length then List.replicate 24 0 else [])++(symsB m m.df.length).flatMap encY:=by
 have e:syms9 b m.df.length=symsB m m.df.length:=by
  unfold syms9 symsB;apply List.map_congr_left
  intro j hj;rw [List.mem_range] at hj;rw [hm,hi,hp];have e1:((outB m).drop (1+m.nd.length)).getD j 0=(outB m).getD (1+m.nd.length+j) 0:=by
   rw [List.getD_eq_getElem?_getD,List.getElem?_drop,←List.getD_eq_getElem?_getD]
  rw [e1];refine symOf_eq (h.df _ ?_) (out_bd h _);rw [List.getD_eq_getElem?_getD,List.getElem?_eq_getElem hj];exact List.getElem_mem hj
 unfold symsN;rw [hm,e];by_cases c:m.df.length=0
 ·rw [if_pos c,if_neg (by omega),c];rfl
 ·rw [if_neg c,if_pos (by omega),List.flatMap_cons,enc_zero]
theorem rels_eq {m:Sp} {b:Bm} (h:MayB m) (hm:b.m=m) (hi:b.i=biB m):relsN b m.fx.length=relsB m m.fx.length:=by
 unfold relsN relsB;apply List.map_congr_left
 intro j hj;rw [List.mem_range] at hj;rw [hm,hi];have hf:=h.fx (m.fx.getD j Fx.zero) (by rw [List.getD_eq_getElem?_getD,List.getElem?_eq_getElem hj];exact List.getElem_mem hj);generalize m.fx.getD j Fx.zero=f at hf;unfold relN9 relOf addrN;have hd:=h.dfl;have e1:(if 0≤f.df then IntKind.u32.wrap (1+IntKind.u32.wrap f.df) else 0)=(if 0≤f.df then f.df+1 else 0):=by
  split
  ·rw [wrap32_id (x:=f.df) (by omega) (by omega),wrap32_id (by omega) (by omega),Int.add_comm]
  ·rfl
 rw [e1];show (⟨(if f.wh=1 then IntKind.u64.wrap (codeB m+f.of) else if f.wh=2 then IntKind.u64.wrap (dataB m+f.of) else if f.wh=3 then f.of else 0),f.ty,_,f.ad⟩:Rl)=_;rw [Int.add_comm (codeB m),Int.add_comm (dataB m)];rcases hf.1 with e | e<;>rw [e]<;>rfl
def Zx (n:Nat) (R:List Int):List Int:=R++List.replicate (n-R.length) 0
theorem lay_none (F:List Int) (p:Nat):splice F p []=F:=by unfold splice;simp
theorem Zx_pad {n j:Nat} {R:List Int} (h:R.length+j≤n):Zx n (R++List.replicate j 0)=Zx n R:=by
 unfold Zx;rw [List.length_append,List.length_replicate,List.append_assoc,List.replicate_append_replicate]
 congr 2
 omega
theorem lay_at {n:Nat} {R ps:List Int} (h:R.length+ps.length≤n):splice (Zx n R) R.length ps=Zx n (R++ps):=by
 unfold splice Zx;rw [List.take_left,List.append_assoc]
 congr 2
 rw [List.drop_append,List.drop_eq_nil_of_le (by omega),List.nil_append,List.drop_replicate,List.length_append]
 congr 1
 omega
theorem lay_to {n p:Nat} {R ps:List Int} (h1:R.length≤p) (h2:p+ps.length≤n):splice (Zx n R) p ps=Zx n (R++(List.replicate (p-R.length) 0++ps)):=by
 have e:(R++List.replicate (p-R.length) (0:Int)).length=p:=by rw [List.length_append,List.length_replicate];omega
 rw [←Zx_pad (n:=n) (R:=R) (j:=p-R.length) (by omega),←List.append_assoc];have:=lay_at (n:=n) (R:=R++List.replicate (p-R.length) 0) (ps:=ps) (by omega);rw [e] at this;exact this
theorem Zx_full {n:Nat} {R:List Int} (h:R.length=n):Zx n R=R:=by unfold Zx;rw [h,Nat.sub_self];simp
theorem Zx_nil (n:Nat):Zx n []=List.replicate n 0:=by unfold Zx;simp
theorem pad_up (zs:List Int) (n:Nat) (p:Nat) (h:(padB zs n).length=p):padB zs n=zs++List.replicate (p-zs.length) 0:=by
 have:(padB zs n).length=zs.length+padN zs.length n:=by unfold padB;rw [List.length_append,List.length_replicate]
 unfold padB
 congr 2
 omega
theorem layAll_eq {m:Sp} (h:MayB m) (n Dy V1 V3 V5 Cp Dp Tp:Nat) (hn:(fileB m).length=n) (e1:dynB m=Dy) (e2:strB m=V1) (e3:symB m=V3) (e4:relB m=V5) (e5:codeB m=Cp) (e6:dataB m=Dp) (e7:tlsB m=Tp) (E4:List Int)
 (h4:E4=(if 0<m.df.length then List.replicate 24 0 else [])++(symsB m m.df.length).flatMap encY) :
 layAll n [(0,enc m.k (entryB m) 64 (countB m)),(64,(segsB m).flatMap encS),(Dy,putBy (needO m) (vB m)),(V1,tabB m),(V3,E4),(V5,(relsB m m.fx.length).flatMap encL),(Cp,m.co),(Dp,m.da),(Tp,m.tl)]=fileB m:=by
 have p:=h.places;have s:=p.small h;have hf:=file_len h;rw [hn] at hf;have p1:=p.tl;have p2:=p.da;have p3:=h.sz;have p4:=p.co;have p5:=p.en;have p6:=p.re;have p7:=p.sy;have p8:=p.sn;have p9:=p.rn;have p10:=p.st;have p11:=p.sz;have p12:=p.dy;have p13:=p.c;have l1:=front_len m;have l2:=head_len m;have l3:=symsP_len m;have l4:=relsP_len m;have l5:=codeP_len m;have l6:=dataP_len m;have l7:=dataP_le m;have hge:endB m≤n:=by split at hf;omega;split at hf;omega;split at hf<;>omega
 unfold layAll;simp only [List.foldl_cons,List.foldl_nil];rw [←Zx_nil];have a1:=enc_len m.k (entryB m) 64 (countB m);have a2:=flat_len encS 56 encS_len (segsB m);have a3:=putV_len m;have a4:=segsB_len m;have hfr:frontB m=enc m.k (entryB m) 64 (countB m)++(segsB m).flatMap encS++putBy (needO m) (vB m):=rfl;have hsz:sizeB m=(putBy (needO m) (v0B m)).length:=rfl;have hhd:headB m=padB (frontB m++tabB m) 8:=rfl;have hsy:symsP m=headB m++E4:=by rw [h4];rfl
 have hre:relsP m=symsP m++(relsB m m.fx.length).flatMap encL:=rfl;have hco:codeP m=if hasC m then padB (relsP m) 256++m.co else relsP m:=rfl;have hda:dataP m=if 0<m.da.length then padB (codeP m) 256++m.da else codeP m:=rfl;have hfl:fileB m=if 0<m.tl.length then dataP m++(List.replicate ((tlsB m).toNat-(dataP m).length) 0++m.tl) else dataP m:=rfl;have hup:=up_codeP m;have hcb:codeB m=upI (endB m) 256:=rfl;clear h4;generalize enc m.k (entryB m) 64 (countB m)=A1 at *;generalize (segsB m).flatMap encS=A2 at *;generalize putBy (needO m) (vB m)=A3 at *;generalize (relsB m m.fx.length).flatMap encL=A5 at *;generalize frontB m=FR at *;generalize headB m=HD at *;generalize symsP m=SY at *;generalize relsP m=RE at *;generalize codeP m=CO at *;generalize dataP m=DA at *;have b1:A1.length+A2.length+A3.length=FR.length:=by rw [hfr,List.length_append,List.length_append]
 have b2:HD.length+E4.length=SY.length:=by rw [hsy,List.length_append]
 have b3:SY.length+A5.length=RE.length:=by rw [hre,List.length_append]
 have s1:splice (Zx n []) 0 A1=Zx n A1:=lay_at (R:=[]) (by simp;omega);rw [s1];have s2:splice (Zx n A1) 64 A2=Zx n (A1++A2):=by have:=lay_at (n:=n) (R:=A1) (ps:=A2) (by omega);rw [a1] at this;exact this
 rw [s2];have d1:(A1++A2).length=Dy:=by rw [List.length_append];omega
 have s3:splice (Zx n (A1++A2)) Dy A3=Zx n FR:=by have:=lay_at (n:=n) (R:=A1++A2) (ps:=A3) (by omega);rw [d1] at this;rw [hfr];exact this
 rw [s3];have s4:splice (Zx n FR) V1 (tabB m)=Zx n HD:=by
  have h1:=lay_at (n:=n) (R:=FR) (ps:=tabB m) (by omega);rw [show FR.length=V1 by omega] at h1;rw [h1,hhd];unfold padB;refine (Zx_pad ?_).symm;have:(padB (FR++tabB m) 8).length=HD.length:=by rw [hhd]
  unfold padB at this;rw [List.length_append,List.length_replicate] at this;omega
 rw [s4];have s5:splice (Zx n HD) V3 E4=Zx n SY:=by have h1:=lay_at (n:=n) (R:=HD) (ps:=E4) (by omega);rw [show HD.length=V3 by omega] at h1;rw [hsy];exact h1
 rw [s5];have s6:splice (Zx n SY) V5 A5=Zx n RE:=by have h1:=lay_at (n:=n) (R:=SY) (ps:=A5) (by omega);rw [show SY.length=V5 by omega] at h1;rw [hre];exact h1
 rw [s6];have s7:splice (Zx n RE) Cp m.co=Zx n CO:=by
  by_cases c:0<m.co.length
  ·rw [if_pos c] at l5;unfold hasC at hco;rw [if_pos (decide_eq_true c)] at hco;have hpl:(padB RE 256).length=Cp:=by have h1:=padB_len256 RE;rw [l4,←hcb] at h1;omega
   rw [lay_to (by omega) (by (repeat' split at hf)<;>omega),hco,pad_up RE 256 Cp hpl,List.append_assoc]
  ·unfold hasC at hco;rw [if_neg (by rw [decide_eq_true_eq];exact c)] at hco;rw [List.eq_nil_of_length_eq_zero (show m.co.length=0 by omega),lay_none,hco]
 rw [s7];have s8:splice (Zx n CO) Dp m.da=Zx n DA:=by
  by_cases c:0<m.da.length
  ·rw [if_pos c] at hda;have hpl:(padB CO 256).length=Dp:=by have h1:=padB_len256 CO;rw [hup] at h1;omega
   have hle:CO.length≤Dp:=by rw [←hpl];unfold padB;rw [List.length_append];omega
   rw [lay_to hle (by (repeat' split at hf)<;>omega),hda,pad_up CO 256 Dp hpl,List.append_assoc]
  ·rw [if_neg c] at hda;rw [List.eq_nil_of_length_eq_zero (show m.da.length=0 by omega),lay_none,hda]
 rw [s8];by_cases c:0<m.tl.length
 ·rw [if_pos c] at hfl hf;rw [lay_to (by omega) (by omega),hfl,show (tlsB m).toNat=Tp by omega];refine Zx_full ?_;rw [List.length_append,List.length_append,List.length_replicate];omega
 ·rw [if_neg c] at hfl;rw [List.eq_nil_of_length_eq_zero (show m.tl.length=0 by omega),lay_none,hfl];refine Zx_full ?_;rw [←hn,hfl]

end Go.Proofs.YtclgbdfkdbbinaaGreat
namespace Go.Proofs.YtclgbdfkdbbinaaGreat
open Go.RowKit Go.WideMaps Go.Maps
theorem law_str:Keyed Tryz.prog 9:=string_keyed Tryz.underlying9
theorem zero_u64 (w:World):(zeroValue 24).run Tryz.prog w=.ok (.int .u64 0) w:=by kernel_rfl
theorem wpList_insert_own {H:Type} {P:Program} (w:World) {ops:Array Oper} {rest:List Oper} {o:Oper} {a:Act} {Q:Exit→Act→World→Prop}
 (hg:o.guard=none) (m x v:Operand) (t:TypeId) (hop:o.op=Op.insert t m x v)
 (k e:TypeId) (K:Keyed P k) (ht:P.underlying t=some (.map k e)) (R:Value→Option (DataW H×List MemPlace)) (b n:Nat) (D:DataW H)
 (hm:a.eval m=.map (some b)) (hown:w.ownsMap P k R b n D) (hn:n<maxLen) (key val:Value) (kl:Lit) (hx:a.eval x=key) (hv:a.eval v=val) (hkey:keyOf P k key=some kl)
 (d:DataW H) (ps:List MemPlace) (hval:R val=some (d,ps))
 (hK:∀w',w'.ownsMap P k R b (n+1) (D.put kl d)→w.grownBy w' (some b)→wpList P ops Q rest (a.put o.dst undef) w') :
 wpList P ops Q (o :: rest) a w:=by
 refine wpList_plain hg fun K' hK'=>?_;obtain ⟨w',hrun,r1,r2⟩:=hown.update K ht hn hkey hval;unfold Oper.wp;simp [execOp,hop,hm,hx,hv,hrun,Result.andThen]
 exact hK' _ _ (hK w' r1 r2)
theorem own_apart {w:World} {b1 b2 n m:Nat} {e1 e2:TypeId} {v u:Value} {xs ys:List Value} (h:w.ownsRow b1 e1 1 v n xs) (k:w.ownsRow b2 e2 1 u m ys) (hne:e1≠e2):v.ownBlock=none∨v.ownBlock≠u.ownBlock:=by
 rcases h.2 with ⟨rfl,_⟩ | ⟨g,c,cur,rfl,_,hg,_⟩
 ·exact .inl rfl
 ·rcases k.2 with ⟨rfl,_⟩ | ⟨g',c',cur',rfl,_,hg',_⟩
  ·exact .inr (by simp [Value.ownBlock])
  ·refine .inr fun e=>?_;simp only [Value.ownBlock,Option.some.injEq] at e;subst e;rw [hg] at hg';injection hg' with hg';injection hg' with _ e2;exact hne e2
theorem map_apart {H:Type} {P:Program} {k:TypeId} {R:Value→Option (DataW H×List MemPlace)} {D:DataW H} {w:World} {b1 b n m:Nat} {e1:TypeId} {v:Value} {xs:List Value} (h:w.ownsRow b1 e1 1 v n xs) (hm:w.ownsMap P k R b m D):v.ownBlock≠some b:=by
 rcases h.2 with ⟨rfl,_⟩ | ⟨g,c,cur,rfl,_,hg,_⟩
 ·simp [Value.ownBlock]
 ·intro e;simp only [Value.ownBlock,Option.some.injEq] at e;subst e;obtain ⟨es,clock,hb,_⟩:=hm;rw [hg] at hb;cases hb
def key (s:ByteArray):Lit:=.string s.data.toList
theorem key_inj {s t:ByteArray} (h:key s=key t):s=t:=by
 unfold key at h;injection h with h;exact ByteArray.ext (Array.ext' h)
def u64d (n:Nat):DataW Unit:=.lit (.int .u64 n)
def MapOk (L:List ByteArray) (k:Nat) (D:DataW Unit):Prop:=
 IsMap D∧∀s:ByteArray,Maps.has D (key s)=seenB L k s∧(Seen L k s→D.atKey (key s) (u64d 0)=u64d (pos L k s))
theorem isKey (s:ByteArray):WideAt.IsKeyLit (key s):=by simp [key,WideAt.IsKeyLit]
theorem mapOk_zero (L:List ByteArray):MapOk L 0 ((DataW.map []).put (key .empty) (u64d 0)):=by
 refine ⟨isMap_empty.put _ _,fun s=>?_⟩;by_cases hs:s=.empty
 ·subst hs;refine ⟨?_,fun _=>?_⟩
  ·rw [has_put_same isMap_empty (isKey _),(seenB_iff L 0 _).2 (.inl rfl)]
  ·rw [atKey_put_same isMap_empty (isKey _),pos_empty]
 ·have hne:key s≠key .empty:=fun e=>hs (key_inj e);have hns:¬Seen L 0 s:=fun h=>h.elim hs (fun ⟨i,h,_⟩=>absurd h (Nat.not_lt_zero _));refine ⟨?_,fun h=>absurd h hns⟩;rw [has_put_other hne,Bool.eq_false_iff.2 (fun h=>hns ((seenB_iff L 0 s).1 h))];rfl
theorem mapOk_seen {L:List ByteArray} {k:Nat} {D:DataW Unit} (h:MapOk L k D) (hs:seenB L k (nm L k)=true):MapOk L (k+1) D:=by
 refine ⟨h.1,fun s=>?_⟩;by_cases he:nm L k=s
 ·subst he;refine ⟨by rw [seenB_succ,(h.2 _).1,hs];rfl,fun _=>?_⟩;have h1:=(seenB_iff _ _ _).1 hs;rw [(h.2 _).2 h1,pos_stay (m:=k+1) h1 (by omega)]
 ·have e:seenB L (k+1) s=seenB L k s:=by rw [seenB_succ];simp [he]
  refine ⟨by rw [e,(h.2 s).1],fun h1=>?_⟩;have h2:Seen L k s:=(seenB_iff _ _ _).1 (e▸(seenB_iff _ _ _).2 h1);rw [(h.2 s).2 h2,pos_stay (m:=k+1) h2 (by omega)]
theorem mapOk_new {L:List ByteArray} {k:Nat} {D:DataW Unit} (h:MapOk L k D) (hs:seenB L k (nm L k)=false):MapOk L (k+1) (D.put (key (nm L k)) (u64d (tab L k).length)):=by
 refine ⟨h.1.put _ _,fun s=>?_⟩;by_cases he:nm L k=s
 ·subst he;refine ⟨by rw [has_put_same h.1 (isKey _),seenB_succ];simp,fun _=>?_⟩;rw [atKey_put_same h.1 (isKey _),pos_new hs]
 ·have hne:key s≠key (nm L k):=fun e=>he (key_inj e).symm;have e:seenB L (k+1) s=seenB L k s:=by rw [seenB_succ];simp [he]
  refine ⟨by rw [has_put_other hne,e,(h.2 s).1],fun h1=>?_⟩;have h2:Seen L k s:=(seenB_iff _ _ _).1 (e▸(seenB_iff _ _ _).2 h1);rw [atKey_put_other hne,(h.2 s).2 h2,pos_stay (m:=k+1) h2 (by omega)]
theorem u64d_inj {n:Nat} {c:Int} (h:u64d n=.lit (.int .u64 c)):c=(n:Int):=by
 unfold u64d at h;injection h with h;injection h with h1 h2;exact h2.symm
theorem key_of {s:ByteArray} (h:s.size≤maxLen):keyOf Tryz.prog 9 (.string s)=some (key s):=keyOf_string_mk Tryz.underlying9 h
theorem wf_u64 {n:Nat} (h:n≤65536):(Lit.int .u64 (n:Int)).wf=true:=by
 simp [Lit.wf,IntKind.min,IntKind.max,IntKind.signed,IntKind.bits];omega
theorem anyZero_no (B:Nat) (a:Option Addr) (len cap:Nat) (L:List ByteArray) (w:World) (hs:Strs w B a len L) (hl:(len:Int)≤9223372036854775807) (hc:Clean L) :
 Calls Tryz.prog 66 #[.slice a len cap] w fun e w'=>e=.returned (.bool false)∧w=w':=by
 have HS:=Lib.hid hs;have HC:=Lib.hid hc;clear hs hc;go_enter Tryz.func66,Tryz.ntmps66
 go_wp2;go_loop [7] (fun i=>∃k:Nat,k≤len∧i=.int .i64 k) (fun i=>len-(intOf i).toNat)
 case atStart=>exact ⟨0,Nat.zero_le _,rfl⟩
 case round=>
  obtain ⟨k,hk,rfl⟩:=hrel;by_cases hlt:k<len
  ·obtain ⟨b,off,rfl,_,hcell⟩:=HS.out.2 (by omega);obtain ⟨s,hsn⟩:∃s,s=L.getD k .empty:=⟨_,rfl⟩
   have hc:=hcell k hlt;rw [←hsn] at hc;have HI:Hid (Lib.indexByte s.data.toList 0=-1):=Lib.hid (by
    have:=HC.out k (by have:=HS.out.1;omega);rw [←k2_bytesOf_bs,hsn];exact k2_idx_none (bs_bd _) this)
   clear hcell hsn;go_wp2_with (go_at_call 121;refine (k2_sidx_any _ _ _ HI.out).mono ?_;rintro e w' ⟨rfl,rfl⟩);go_round
   case rel=>exact ⟨k+1,by omega,by go_num⟩
   case measure=>simp [intOf];omega
  ·obtain rfl:k=len:=by omega
   go_wp2;go_ret;exact ⟨rfl,rfl⟩
theorem anyZero_yes (B:Nat) (a:Option Addr) (len cap:Nat) (L:List ByteArray) (w:World) (n m:Nat) (hs:Strs w B a len L) (hl:(len:Int)≤9223372036854775807) (hn:n<len) (hc:∀i,i<n→k2_NoZ (bs (nm L i))) (hm:k2_FirstZ (bs (nm L n)) m) :
 Calls Tryz.prog 66 #[.slice a len cap] w fun e w'=>e=.returned (.bool true)∧w=w':=by
 obtain ⟨b,off,rfl,_,hcell⟩:=hs.2 (by omega);have HC:=Lib.hid hc;have HL:=Lib.hid hcell;have HM:=Lib.hid hm;clear hs hc hcell hm;go_enter Tryz.func66,Tryz.ntmps66
 go_wp2;go_loop [7] (fun i=>∃k:Nat,k≤n∧i=.int .i64 k) (fun i=>len-(intOf i).toNat)
 case atStart=>exact ⟨0,Nat.zero_le _,rfl⟩
 case round=>
  obtain ⟨k,hk,rfl⟩:=hrel;have hkl:k<len:=by omega
  obtain ⟨s,hsn⟩:∃s,s=L.getD k .empty:=⟨_,rfl⟩
  have hc:=HL.out k hkl;rw [←hsn] at hc;by_cases hlt:k<n
  ·have HI:Hid (Lib.indexByte s.data.toList 0=-1):=Lib.hid (by
    rw [←k2_bytesOf_bs,hsn];exact k2_idx_none (bs_bd _) (HC.out k hlt))
   clear hsn;go_wp2_with (go_at_call 121;refine (k2_sidx_any _ _ _ HI.out).mono ?_;rintro e w' ⟨rfl,rfl⟩);go_round
   case rel=>exact ⟨k+1,by omega,by go_num⟩
   case measure=>simp [intOf];omega
  ·obtain rfl:k=n:=by omega
   have HI:Hid (Lib.indexByte s.data.toList 0=(m:Int)):=Lib.hid (by
    rw [←k2_bytesOf_bs,hsn];exact k2_idx_some (bs_bd _) HM.out)
   clear hsn;go_wp2_with (go_at_call 121;refine (k2_sidx_any _ _ _ HI.out).mono ?_;rintro e w' ⟨rfl,rfl⟩);go_ret;exact ⟨rfl,rfl⟩
theorem build_arg (B:Nat) (a:Option Addr) (len cap:Nat) (L:List ByteArray) (w:World) (n m:Nat) (hs:Strs w B a len L) (hl:(len:Int)≤9223372036854775807) (hn:n<len) (hc:∀i,i<n→k2_NoZ (bs (nm L i))) (hm:k2_FirstZ (bs (nm L n)) m) :
 Calls Tryz.prog 29 #[.slice a len cap] w fun e w'=>e=.returned (.tuple #[.slice none 0 0,.slice none 0 0,.int .i64 1])∧w=w':=by
 have HC:=Lib.hid hc;have HS:=Lib.hid hs;have HM:=Lib.hid hm;clear hs hc hm;go_enter Tryz.func29,Tryz.ntmps29
 go_wp2_with (go_at_call 66;refine (anyZero_yes _ _ _ _ _ _ _ _ HS.out hl hn HC.out HM.out).mono ?_;rintro e w' ⟨rfl,rfl⟩);go_ret3;exact ⟨rfl,rfl⟩
def BuildPost (L:List ByteArray) (w:World) (e:Ending) (w':World):Prop:=
 Below w.heap.size w w'∧
 ((65536<(tab L L.length).length∧e=.returned (.tuple #[.slice none 0 0,.slice none 0 0,.int .i64 13]))∨
  ((tab L L.length).length≤65536∧∃ta tc pa pc,e=.returned (.tuple #[.slice ta (tab L L.length).length tc,.slice pa L.length pc,.int .i64 0])∧
   w'.ownsRow w.heap.size 5 1 (.slice ta (tab L L.length).length tc) (tab L L.length).length ((tab L L.length).map (Value.int .u8))∧
   w'.ownsRow w.heap.size 24 1 (.slice pa L.length pc) L.length ((outs L L.length).map (Value.int .u64))))
theorem buildPost_ok {L:List ByteArray} {w w':World} {k:Nat} {va ua:Option Addr} {vc uc:Nat} (hk:L.length=k) (hbel:Below w.heap.size w w') (ht:(tab L k).length≤65536)
 (hv:w'.ownsRow w.heap.size 5 1 (.slice va (tab L k).length vc) (tab L k).length ((tab L k).map (Value.int .u8)))
 (hu:w'.ownsRow w.heap.size 24 1 (.slice ua k uc) k ((outs L k).map (Value.int .u64))) :
 BuildPost L w (.returned (.tuple #[.slice va (tab L k).length vc,.slice ua k uc,.int .i64 0])) w':=by
 subst hk;exact ⟨hbel,.inr ⟨ht,va,vc,ua,uc,rfl,hv,hu⟩⟩
theorem build_any (B:Nat) (a:Option Addr) (len cap:Nat) (L:List ByteArray) (w:World) (hs:Strs w B a len L) (hB:B≤w.heap.size) (hl:len≤1000000) (hsz:∀i,(nm L i).size≤maxLen) (hc:Clean L) :
 Calls Tryz.prog 29 #[.slice a len cap] w (BuildPost L w):=by
 obtain ⟨i0,hi,hz0,hz1,hz2⟩:=info_parts info_u8;obtain ⟨i1,hj,hy0,hy1,hy2⟩:=info_parts info_u64;have hli:(len:Int)≤9223372036854775807:=by omega
 have HC:=Lib.hid hc;have HS:=Lib.hid hs;have HSZ:=Lib.hid hsz;have HI:=Lib.hid hi;have HZ0:=Lib.hid hz0;have HZ1:=Lib.hid hz1;have HZ2:=Lib.hid hz2;have HJ:=Lib.hid hj;have HY0:=Lib.hid hy0;have HY1:=Lib.hid hy1;have HY2:=Lib.hid hy2;clear hs hc hsz hi hz0 hz1 hz2 hj hy0 hy1 hy2;have hmm:=@run_makeMap Tryz.prog;have HM0:Hid (((w.alloc (.cells #[.int .u8 0] 5)).alloc (.map #[] 0)).ownsMap (H:=Unit) Tryz.prog 9 (plainElem Tryz.prog 24) (w.heap.size+1) 0 (.map [])):=Lib.hid (by
  have:=World.ownsMap_made (H:=Unit) (w.alloc (.cells #[.int .u8 0] 5)) Tryz.prog 9 (plainElem Tryz.prog 24);simpa using this)
 go_enter Tryz.func29,Tryz.ntmps29
 have HK0:Hid (keyOf Tryz.prog 9 (.string ⟨#[]⟩)=some (key .empty)):=Lib.hid (key_of (s:=.empty) (by decide));have HV0:Hid (plainElem (H:=Unit) Tryz.prog 24 (.int .u64 0)=some (u64d 0,[])):=Lib.hid (plainElem_int Tryz.underlying24 (by decide));have hM:0<maxLen:=by unfold maxLen;omega
 go_wp2_with (first | (go_at_call 66;refine (anyZero_no _ _ _ _ _ _ HS.out hli HC.out).mono ?_;rintro e w' ⟨rfl,rfl⟩) | (refine wpList_insert_own _ rfl _ _ _ 125 rfl 9 24 law_str Tryz.underlying125 _ (w.heap.size+1) 0 _ rfl HM0.out hM (.string ⟨#[]⟩) (.int .u64 0) (key .empty) rfl rfl HK0.out (u64d 0) [] HV0.out ?_));intro w1 hm1 hg1;have hb1:Below w.heap.size w w1:=(((Below.refl _ _).alloc (Nat.le_refl _) _).alloc (by simp) _).grown hg1 (by simp;omega) (fun k e=>by injection e with e;omega);have ht1:w1.ownsRow w.heap.size 5 1 (.slice (some ⟨w.heap.size,0,none⟩) 1 1) 1 ((tab L 0).map (Value.int .u8)):=
  ((own_alloc w w.heap.size 5 [.int .u8 0] (Nat.le_refl _) (by decide)).alloc _).kept hg1 (.inr (by simp [Value.ownBlock]))
 have HM1:=Lib.hid hm1;have HT1:=Lib.hid ht1;clear hm1 hg1 ht1;go_wp2_with (at_make;refine wpList_make_own _ rfl _ _ 68 rfl w.heap.size 24 i1 (.int .u64 0) 1 Tryz.underlying68 HJ.out HY0.out HY1.out .i64 .i64 _ len rfl rfl rfl ?c1 ?c2 ?c3 ?_);case c1=>rw [HY2.out];omega
 case c2=>unfold maxLen;omega
 case c3=>exact hb1.size
 intro w2 hu2 hg2;have hb2:Below w.heap.size w w2:=hb1.grown hg2 hb1.size (fun _ e=>by cases e);have HT2:=Lib.hid (HT1.out.kept hg2 (.inr (by intro e;cases e)));have HM2:=Lib.hid (HM1.out.kept hg2 (by intro e;cases e));have HU2:=Lib.hid hu2;clear hu2 hg2 HM1 HT1 hb1 HM0;go_wp2;go_loopw [5,7,22] (fun v u i wr=>∃k:Nat,k≤len∧i=.int .i64 k∧wr.ownsRow w.heap.size 5 1 v (tab L k).length ((tab L k).map (Value.int .u8))∧
  wr.ownsRow w.heap.size 24 1 u k ((outs L k).map (Value.int .u64))∧(tab L k).length≤65536∧(∃D,wr.ownsMap Tryz.prog 9 (plainElem Tryz.prog 24) (w.heap.size+1) (k+1) D∧MapOk L k D)∧Below w.heap.size w wr) (fun _ _ i _=>len-(intOf i).toNat)
 case atStart=>exact ⟨0,Nat.zero_le _,rfl,HT2.out,HU2.out,by simp [tab],⟨_,HM2.out,mapOk_zero L⟩,hb2⟩
 case round=>
  obtain ⟨k,hk,rfl,hv,hu,ht,⟨D,hm,hok⟩,hbel⟩:=hrel;obtain ⟨va,vc,rfl⟩:=own_slice hv;have HV:=Lib.hid hv;have HU:=Lib.hid hu;have HM:=Lib.hid hm;have HOK:=Lib.hid hok;have HT:=Lib.hid ht;clear hv hu hm hok ht;by_cases hlt:k<len
  ·obtain ⟨b,off,rfl,hbB,hcell⟩:=HS.out.2 (by omega);obtain ⟨s,hsn⟩:∃s,s=nm L k:=⟨_,rfl⟩
   have hc:wr.cell? ⟨b,off+k,none⟩=some (.string s):=by
    rw [hsn];exact (hbel.cell (p:=⟨b,off+k,none⟩) (by show b<_;omega)).trans (hcell k hlt)
   have hssz:s.size≤maxLen:=by rw [hsn];exact HSZ.out k
   have HKEY:=Lib.hid (key_of hssz);have hssi:(s.size:Int)≤9223372036854775807:=by unfold maxLen at hssz;omega
   have HSN:=Lib.hid hsn;clear hcell hsn hssz;cases hseen:seenB L k (nm L k) with
   | true=>
     have HSEEN:=Lib.hid hseen;have hhit:Maps.has D (key s)=true:=by rw [HSN.out,(HOK.out.2 _).1];exact hseen
     clear hseen;go_wp2_with (first | (at_lookup;refine wpList_lookup_own_ok_int _ rfl _ _ 125 rfl 9 24 .u64 law_str Tryz.underlying125 Tryz.underlying24 (zero_u64 _) (w.heap.size+1) (k+1) D rfl HM.out _ _ rfl HKEY.out ?_;intro c hat hwc;rw [hhit]) | (at_builtin;refine wpList_append_own _ rfl _ _ 68 rfl w.heap.size 24 i1 (.int .u64 0) 1 8 Tryz.underlying68 HJ.out HY0.out HY1.out HY2.out rfl (by decide) _ k _ rfl (HU.out.alloc _) ⟨wr.heap.size,0,none⟩ 1 1 [.int .u64 c] rfl rfl ?c1 ?c2 ?c3 ?c4 ?c5 ?_));case c1=>exact cell_one_new _ _ _
     case c2=>intro u hu;obtain rfl:=List.mem_singleton.1 hu;rfl
     case c3=>unfold maxLen;omega
     case c4=>omega
     case c5=>have:=hbel.size;simp;omega
     intro u' w3 hu3 hg3 hnil3;have hcp:c=(pos L (k+1) (nm L k):Int):=by
      have h1:=(HOK.out.2 s).2 (HSN.out▸(seenB_iff _ _ _).1 HSEEN.out);have h2:=u64d_inj (h1.symm.trans hat);rw [h2,HSN.out,pos_stay (m:=k+1) ((seenB_iff _ _ _).1 HSEEN.out) (by omega)]
     have HU3:Hid (w3.ownsRow w.heap.size 24 1 u' (k+1) ((outs L (k+1)).map (Value.int .u64))):=Lib.hid (by
      rw [outs,List.map_append,←hcp];exact hu3)
     have HV3:Hid (w3.ownsRow w.heap.size 5 1 (.slice va (tab L (k+1)).length vc) (tab L (k+1)).length ((tab L (k+1)).map (Value.int .u8))):=Lib.hid (by
      rw [tab_seen HSEEN.out];exact (HV.out.alloc _).kept hg3 (own_apart HV.out HU.out (by decide)))
     have HM3:=Lib.hid ((HM.out.alloc (.cells #[.int .u64 c] 24)).kept hg3 (fun e=>map_apart HU.out HM.out e.symm));have hb3:Below w.heap.size w w3:=(hbel.alloc hbel.size _).grown hg3 (by have:=hbel.size;simp;omega) (fun q e=>(HU.out.lt q e).1);have HTL:Hid ((tab L k).length=(tab L (k+1)).length):=Lib.hid (by rw [tab_seen HSEEN.out]);clear hcp hu3 hg3 hnil3 hat hwc hhit;go_wp2;go_roundw
     case rel=>exact ⟨k+1,by omega,by go_num,by rw [HTL.out];exact HV3.out,HU3.out,by rw [←HTL.out];exact HT.out,⟨D,HM3.out.mono (by omega),mapOk_seen HOK.out HSEEN.out⟩,hb3⟩
     case measure=>simp [intOf];omega
   | false=>
     have HSEEN:=Lib.hid hseen;have hmiss:Maps.has D (key s)=false:=by rw [HSN.out,(HOK.out.2 _).1];exact hseen
     have HTN:=Lib.hid (tab_new hseen);have HLN:Hid ((tab L (k+1)).length=(tab L k).length+s.size+1):=Lib.hid (by
      rw [HTN.out,List.length_append,List.length_append,bs_len,HSN.out];rfl)
     have hT:=HT.out;clear hseen;by_cases hov:65536≤(tab L k).length+s.size
     ·have hovi:(65536:Int)-((tab L k).length:Int)≤(s.size:Int):=by omega
      have hlong:Hid (65536<(tab L L.length).length):=Lib.hid (by
       have h1:=tab_mono L (k:=k+1) (m:=L.length) (by have:=HS.out.1;omega);have:=HLN.out;omega)
      clear hov;go_wp2_with (at_lookup;refine wpList_lookup_own_ok_int _ rfl _ _ 125 rfl 9 24 .u64 law_str Tryz.underlying125 Tryz.underlying24 (zero_u64 _) (w.heap.size+1) (k+1) D rfl HM.out _ _ rfl HKEY.out ?_;intro c hat hwc;rw [hmiss]);go_ret3;exact ⟨hbel,.inl ⟨hlong.out,rfl⟩⟩
     ·have hovi:(s.size:Int)<(65536:Int)-((tab L k).length:Int):=by omega
      have HVAL:Hid (plainElem (H:=Unit) Tryz.prog 24 (.int .u64 ((tab L k).length:Int))=some (u64d (tab L k).length,[])):=Lib.hid (plainElem_int Tryz.underlying24 (wf_u64 hT));have hkm:k+1<maxLen:=by unfold maxLen;omega
      go_wp2_with (first | (at_lookup;refine wpList_lookup_own_ok_int _ rfl _ _ 125 rfl 9 24 .u64 law_str Tryz.underlying125 Tryz.underlying24 (zero_u64 _) (w.heap.size+1) (k+1) D rfl HM.out _ _ rfl HKEY.out ?_;intro c hat hwc;rw [hmiss]) | (at_mapUpdate;refine wpList_mapUpdate_own _ rfl _ _ _ 125 rfl 9 24 law_str Tryz.underlying125 _ (w.heap.size+1) (k+1) D rfl HM.out hkm _ _ _ rfl rfl HKEY.out _ [] HVAL.out ?_));intro w3 hm3 hg3;have hb3:Below w.heap.size w w3:=hbel.grown hg3 hbel.size (fun q e=>by injection e with e;omega);have HM3:=Lib.hid hm3;have HV3:=Lib.hid (HV.out.kept hg3 (.inr (map_apart HV.out HM.out)));have HU3:=Lib.hid (HU.out.kept hg3 (.inr (map_apart HU.out HM.out)));clear hm3 hg3 hat hwc hmiss hkm HVAL;go_wp2_with (at_builtin;refine Lib.wpList_append_own_string _ rfl _ _ 22 9 rfl w.heap.size 5 i0 Tryz.underlying22 Tryz.underlying9 HI.out HZ0.out HZ1.out HZ2.out _ (tab L k).length _ rfl HV3.out s rfl ?c1 ?c2 ?c3 ?_);case c1=>unfold maxLen;omega
      case c2=>omega
      case c3=>exact hb3.size
      intro v4 w4 hv4 hg4 hnil4;rw [bs_cells,←List.map_append] at hv4;have hb4:Below w.heap.size w w4:=hb3.grown hg4 hb3.size (fun q e=>(HV3.out.lt q e).1);have HV4:=Lib.hid hv4;have HU4:=Lib.hid (HU3.out.kept hg4 (own_apart HU3.out HV3.out (by decide)));have HM4:=Lib.hid (HM3.out.kept hg4 (fun e=>map_apart HV3.out HM3.out e.symm));obtain ⟨va4,vc4,rfl⟩:=own_slice hv4;clear hv4 hg4 hnil4;go_wp2_with (at_builtin;refine wpList_append_own _ rfl _ _ 22 rfl w.heap.size 5 i0 (.int .u8 0) 1 1 Tryz.underlying22 HI.out HZ0.out HZ1.out HZ2.out rfl (by decide) _ ((tab L k).length+s.size) _ rfl (HV4.out.alloc _) ⟨w4.heap.size,0,none⟩ 1 1 [.int .u8 0] rfl rfl ?d1 ?d2 ?d3 ?d4 ?d5 ?_);case d1=>exact cell_one_new _ _ _
      case d2=>intro u hu;obtain rfl:=List.mem_singleton.1 hu;rfl
      case d3=>unfold maxLen;omega
      case d4=>omega
      case d5=>have:=hb4.size;simp;omega
      intro v5 w5 hv5 hg5 hnil5;have hb5:Below w.heap.size w w5:=(hb4.alloc hb4.size _).grown hg5 (by have:=hb4.size;simp;omega) (fun q e=>(HV4.out.lt q e).1);have HV5:Hid (w5.ownsRow w.heap.size 5 1 v5 (tab L (k+1)).length ((tab L (k+1)).map (Value.int .u8))):=Lib.hid (by
       rw [HLN.out,HTN.out,←HSN.out,List.map_append,List.map_append];exact hv5)
      have HU5:=Lib.hid ((HU4.out.alloc (.cells #[.int .u8 0] 5)).kept hg5 (own_apart HU4.out HV4.out (by decide)));have HM5:=Lib.hid ((HM4.out.alloc (.cells #[.int .u8 0] 5)).kept hg5 (fun e=>map_apart HV4.out HM4.out e.symm));clear hv5 hg5 hnil5;go_wp2_with (at_builtin;refine wpList_append_own _ rfl _ _ 68 rfl w.heap.size 24 i1 (.int .u64 0) 1 8 Tryz.underlying68 HJ.out HY0.out HY1.out HY2.out rfl (by decide) _ k _ rfl (HU5.out.alloc _) ⟨w5.heap.size,0,none⟩ 1 1 [.int .u64 ((tab L k).length:Int)] rfl rfl ?e1 ?e2 ?e3 ?e4 ?e5 ?_);case e1=>exact cell_one_new _ _ _
      case e2=>intro u hu;obtain rfl:=List.mem_singleton.1 hu;rfl
      case e3=>unfold maxLen;omega
      case e4=>omega
      case e5=>have:=hb5.size;simp;omega
      intro u6 w6 hu6 hg6 hnil6;have hb6:Below w.heap.size w w6:=(hb5.alloc hb5.size _).grown hg6 (by have:=hb5.size;simp;omega) (fun q e=>(HU5.out.lt q e).1);have HU6:Hid (w6.ownsRow w.heap.size 24 1 u6 (k+1) ((outs L (k+1)).map (Value.int .u64))):=Lib.hid (by
       rw [outs,List.map_append,pos_new HSEEN.out];exact hu6)
      have HV6:=Lib.hid ((HV5.out.alloc (.cells #[.int .u64 ((tab L k).length:Int)] 24)).kept hg6 (own_apart HV5.out HU5.out (by decide)));have HM6:=Lib.hid ((HM5.out.alloc (.cells #[.int .u64 ((tab L k).length:Int)] 24)).kept hg6 (fun e=>map_apart HU5.out HM5.out e.symm));have HT6:Hid ((tab L (k+1)).length≤65536):=Lib.hid (by rw [HLN.out];omega);clear hu6 hg6 hnil6;go_wp2;go_roundw
      case rel=>exact ⟨k+1,by omega,by go_num,HV6.out,HU6.out,HT6.out,⟨_,by rw [←HSN.out] at *;exact HM6.out,by rw [HSN.out];exact mapOk_new HOK.out HSEEN.out⟩,hb6⟩
      case measure=>simp [intOf];omega
  ·obtain rfl:k=len:=by omega
   obtain ⟨ua,uc,rfl⟩:=own_slice HU.out;have HLL:Hid (L.length=k):=Lib.hid HS.out.1;go_wp2;go_ret3;exact buildPost_ok HLL.out hbel HT.out HV.out HU.out
end Go.Proofs.YtclgbdfkdbbinaaGreat
