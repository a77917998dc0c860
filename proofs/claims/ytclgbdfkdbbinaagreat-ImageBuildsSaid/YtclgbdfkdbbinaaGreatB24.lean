/-
  What is proved here: words and contracts, a part of those that the statement rests on (B24).
  Conditions: none but that the arguments are values of their types.
-/
import Derived.Test.YtclgbdfkdbbinaaGreatB0
import Derived.Test.YtclgbdfkdbbinaaGreatB18
import Derived.Test.YtclgbdfkdbbinaaGreatB23
import Derived.Test.YtclgbdfkdbbinaaGreatB9
import Derived.Test.YtclgbdfkdbbinaaGreatB6
import Derived.Test.YtclgbdfkdbbinaaGreatB1
import Derived.BigQuiet
import Derived.Deep.QuietTactic
import Derived.Deep.Cut
import Derived.Deep.DeepCutAuto
import Derived.Laws.AppendOwnNone
set_option linter.unusedVariables false
set_option linter.unusedSimpArgs false
set_option maxRecDepth 100000
set_option maxHeartbeats 12800000
namespace Go.Proofs.YtclgbdfkdbbinaaGreat
open Go.RowKit
structure aZ (m:Sp):Prop where
 k:m.k=2∨m.k=3
 df:∀d∈m.df,0≤d.wh∧d.wh≤3
 fx:∀f∈m.fx,(f.wh=1∨f.wh=2)∧f.df<m.df.length
 bs:0≤m.bs∧m.bs≤1048576
 tb:0≤m.tb∧m.tb≤1048576
 sz:m.co.length+m.da.length+m.tl.length≤65536
 en:cw m.en
 tab:(aA m).length≤65536
 nd:m.nd.length≤1000
 dfl:m.df.length≤1000
 fxl:m.fx.length≤1000
 dok:∀d∈m.df,cw d.of
 fok:∀f∈m.fx,cw f.of∧(0≤f.ty∧f.ty≤4294967295)∧(-9223372036854775808≤f.ad∧f.ad≤9223372036854775807)
theorem up8 (x:Int):x≤upI x 8∧upI x 8≤x+7:=by unfold upI;omega
theorem rT (x:Int):x≤upI x 256∧upI x 256≤x+255:=by unfold upI;omega
theorem sY (m:Sp):2≤aF m∧aF m≤5:=by unfold aF one;split<;>split<;>split<;>omega
theorem vj (m:Sp):cL (vB m)=cL (v0B m):=rfl
theorem iY (m:Sp):(bf (bK m) (vB m)).length=(bf (bK m) (v0B m)).length:=by
 unfold bf;rw [eV,eV];unfold nj aj;rw [vj];simp only [lZa,List.length_map]
theorem qe {m:Sp} (h:aZ m):0≤aW m∧aW m≤16128:=by
 unfold aW bf;rw [eV];unfold nj aj;have:=List.length_filter_le (cL (v0B m)) (List.range 7);rw [List.length_range] at this;have h1:=lY m;have h2:=h.nd;simp only [lZa,List.length_map,List.length_cons,List.length_nil];omega
structure pS (m:Sp):Prop where
 c:2≤aF m∧aF m≤5
 dy:bp m=64+56*aF m
 sz:0≤aW m∧aW m≤16128
 st:cK m=bp m+aW m
 sy:cK m+(aA m).length≤dN m∧dN m≤cK m+(aA m).length+7
 sn:0≤cm m∧cm m≤1001
 re:ez m=dN m+24*cm m
 rn:dd m=24*m.fx.length
 en:bI m=ez m+dd m
 co:bI m≤ar m∧ar m≤bI m+255
 da:ar m+m.co.length≤ak m∧ak m≤ar m+m.co.length+255
 tl:ak m+m.da.length≤aD m∧aD m≤ak m+m.da.length+7
theorem aZ.places {m:Sp} (h:aZ m):pS m:=by
 have h1:=h.dfl;refine ⟨sY m,rfl,qe h,rfl,up8 _,?_,rfl,rfl,rfl,rT _,rT _,up8 _⟩;unfold cm;split<;>omega
theorem pS.small {m:Sp} (p:pS m) (h:aZ m):0≤cK m∧cK m≤20000∧dN m≤90000∧ez m≤120000∧bI m≤150000∧ar m≤151000∧ak m≤220000∧aD m≤300000:=by
 have h1:=h.tab;have h2:=h.fxl;have h3:=h.sz;have h4:=p.c;have h5:=p.dy;have h6:=p.sz;have h7:=p.st;have h8:=p.sy;have h9:=p.sn;have h10:=p.re;have h11:=p.rn;have h12:=p.en;have h13:=p.co;have h14:=p.da;have h15:=p.tl;omega
def biB (m:Sp):Bi:=⟨(bl m).getD 0 0,cK m,(aA m).length,dN m,cm m,ez m,dd m,bp m,bI m,ar m,ak m,aD m⟩
structure uL (x:Bu) (m:Sp):Prop where
 i:x.i=biB m
 co:x.s.co.n=m.co.length
 da:x.s.da.n=m.da.length
 tl:x.s.tl.n=m.tl.length
 bs:x.s.bs=m.bs
 tb:x.s.tb=m.tb
 en:x.s.en=m.en
theorem cQ {x:Int} (h0:0≤x) (h1:x≤18446744073709551615):IntKind.u64.wrap x=x:=by rw [IntKind.wrap_u64];omega
theorem gY {ty fl a size bz:Int} (al:Int) (ha:(if ty=1 then (256:Int) else 8)=al) (h0:0≤size+bz) (h1:size+bz≤18446744073709551615):dM ty fl a size bz=⟨ty,fl,a,a,size,size+bz,al⟩:=by
 unfold dM;rw [cQ h0 h1,ha]
theorem iE {m:Sp} (h:aZ m):mP m.da.length m.tl.length (biB m)=dX m∧0≤dX m∧dX m≤200000∧(0<dX m↔0<m.da.length∨0<m.tl.length):=by
 have p:=h.places;have s:=p.small h;have h1:=p.tl;have h2:=p.da;have h3:=h.sz;have h4:=p.co;have h5:=p.en;have h6:=p.re;have h7:=p.sy;have h8:=p.sn;have h9:=p.rn;unfold mP dX;show (if 0<m.tl.length then IntKind.u64.wrap (IntKind.u64.wrap (aD m+m.tl.length)-ak m) else (m.da.length:Int))=_∧_;by_cases c:0<m.tl.length
 ·rw [if_pos c,if_pos c,cQ (x:=aD m+(m.tl.length:Int)) oZm oZm,cQ oZm (by omega)];omega
 ·rw [if_neg c,if_neg c];omega
theorem vh {x:Bu} {m:Sp} (h:aZ m) (b:uL x m):cH x=eo m:=by
 have p:=h.places;have s:=p.small h;have h1:=p.tl;have h2:=p.da;have h3:=h.sz;have h4:=p.co;have h5:=p.en;have h6:=p.re;have h7:=p.sy;have h8:=p.sn;have h9:=p.rn;have h10:=p.st;have h11:=p.sz;have hbs:=h.bs;have htb:=h.tb;obtain ⟨d1,d2,d3,d4⟩:=iE h;unfold cH eo;rw [b.i,b.co,b.da,b.tl,b.bs,b.tb]
 congr 1
 ·congr 1
  ·congr 1
   ·unfold lQ;show [dM 1 4 0 (bI m) 0]++(if 0<m.co.length then [dM 1 5 (ar m) m.co.length 0] else [])=_;rw [gY 256 rfl oZm oZm,gY 256 rfl oZm oZm,Int.add_zero,Int.add_zero]
    congr 1
    unfold dv;by_cases c:0<m.co.length
    ·rw [if_pos c,if_pos (decide_eq_true c)]
    ·rw [if_neg c,if_neg (by rw [decide_eq_true_eq];exact c)]
   ·unfold lm;rw [d1];show (if 0<dX m∨0<m.bs then [{ dM 1 6 (ak m) (dX m) m.bs with ot:=if dX m=0 then 0 else ak m }] else [])=_;rw [gY 256 rfl oZm (by omega)];unfold bM;by_cases c:0<dX m∨0<m.bs
    ·rw [if_pos c];exact (if_pos (by rw [decide_eq_true_eq];rcases c with c | c;(rcases d4.1 c with c | c;exact .inl c;exact .inr (.inl c));exact .inr (.inr c))).symm
    ·rw [if_neg c,if_neg (by rw [decide_eq_true_eq];rintro (e | e | e);exact c (.inl (d4.2 (.inl e)));exact c (.inl (d4.2 (.inr e)));exact c (.inr e))]
  ·unfold ma;show [dM 2 4 (bp m) (IntKind.u64.wrap (cK m-bp m)) 0]=_;rw [show cK m-bp m=aW m by omega,cQ oZm oZm,gY 8 rfl oZm oZm,Int.add_zero]
 ·unfold mX;show (if 0<m.tl.length then [dM 7 4 (aD m) m.tl.length m.tb] else if 0<m.tb then [dM 7 4 0 0 m.tb] else [])=_;rw [gY 8 rfl oZm oZm,gY 8 rfl oZm (by omega)];unfold bR;by_cases c:0<m.tl.length
  ·rw [if_pos c,if_pos (by rw [decide_eq_true_eq];exact .inl c),if_pos c]
  ·by_cases e:0<m.tb
   ·rw [if_neg c,if_pos e,if_pos (by rw [decide_eq_true_eq];exact .inr e),if_neg c,show ((m.tl.length:Nat):Int)=0 by omega]
   ·rw [if_neg c,if_neg e,if_neg (by rw [decide_eq_true_eq];rintro (z | z);exact c z;exact e z)]
theorem ii (m:Sp):((eo m).length:Int)=aF m:=by
 unfold eo aF one;cases dv m<;>cases bM m<;>cases bR m<;>rfl
theorem rA (x:Bu) (m:Sp) (h:aZ m) (hco:x.s.co.n=m.co.length) (hda:x.s.da.n=m.da.length) (htl:x.s.tl.n=m.tl.length) (hbs:x.s.bs=m.bs) (htb:x.s.tb=m.tb) (hd:x.i.dp=0) (ht:x.i.tp=0):((cH x).length:Int)=aF m:=by
 have h3:=h.sz;unfold cH lQ lm ma mX mP aF one dv bM bR;rw [hco,hda,htl,hbs,htb,hd,ht];rw [show (0:Int)+(m.tl.length:Int)=m.tl.length by omega,cQ (x:=(m.tl.length:Int)) oZm oZm,show (m.tl.length:Int)-0=m.tl.length by omega,cQ (x:=(m.tl.length:Int)) oZm (by omega)];have e:(if 0<m.tl.length then (m.tl.length:Int) else (m.da.length:Int)) > 0↔0<m.da.length∨0<m.tl.length:=by split<;>omega
 generalize (if 0<m.tl.length then (m.tl.length:Int) else (m.da.length:Int))=q at e;by_cases c1:0<m.co.length<;>by_cases c2:0<m.da.length<;>by_cases c3:0<m.tl.length<;>by_cases c4:0<m.bs<;>by_cases c5:0<m.tb<;>simp [c1,c2,c3,c4,c5] at e⊢<;>(try first | (simp [e,c4];done) | (simp [Int.not_lt.2 e,c4];done) | (simp [Int.not_lt.2 e,c4];omega) | (simp [e,c4];omega))<;>(try omega)
theorem sB {x:Bu} {m:Sp} (b:uL x m):gd x=cz m:=by
 unfold gd cz dv;rw [b.i,b.co,b.en];by_cases c:0<m.co.length
 ·rw [if_pos c,if_pos (by simpa using c)];rfl
 ·rw [if_neg c,if_neg (by simpa using c)]
theorem qF (zs:List Int):((cF zs 8).length:Int)=upI zs.length 8:=by
 unfold cF kj upI;rw [lZa,List.length_replicate];omega
theorem fE (zs:List Int):((cF zs 256).length:Int)=upI zs.length 256:=by
 unfold cF kj upI;rw [lZa,List.length_replicate];omega
theorem flat_len {α:Type} (f:α→List Int) (k:Nat) (h:∀x,(f x).length=k):∀L:List α,(L.flatMap f).length=k*L.length
 | []=>rfl
 | x :: L=>by rw [List.flatMap_cons,lZa,h,flat_len f k h L,List.length_cons,Nat.mul_succ];omega
theorem mb (m:Sp):((eh m).length:Int)=cK m:=by
 unfold eh cK aW bp;have e1:=dZ m.k (cz m) 64 (aF m);have e2:=flat_len bH 56 bB (eo m);have e3:=iY m;have e4:=ii m;generalize enc m.k (cz m) 64 (aF m)=A at e1⊢;generalize (eo m).flatMap bH=B at e2⊢;generalize bf (bK m) (vB m)=C at e3⊢;generalize bf (bK m) (v0B m)=D at e3⊢;generalize aF m=q at e4⊢;rw [lZa,lZa];omega
theorem je (m:Sp):((cN m).length:Int)=dN m:=by
 unfold cN;have h1:=mb m;have h2:(((eh m++aA m).length:Nat):Int)=cK m+(aA m).length:=by rw [lZa];omega
 rw [qF,h2];rfl
theorem jD (m:Sp):((dO m).length:Int)=ez m:=by
 unfold dO;rw [lZa,lZa,flat_len bq 24 cA];have:=je m;have h1:(cW m m.df.length).length=m.df.length:=by unfold cW;simp
 rw [h1];unfold ez cm;split
 ·rw [List.length_replicate];omega
 ·rw [List.length_nil];omega
theorem eT (m:Sp):((dL m).length:Int)=bI m:=by
 unfold dL;rw [lZa,flat_len bP 24 dW];have:=jD m;have h1:(ce m m.fx.length).length=m.fx.length:=by unfold ce;simp
 rw [h1];unfold bI dd;omega
theorem eY (m:Sp):((cr m).length:Int)=if 0<m.co.length then ar m+m.co.length else bI m:=by
 unfold cr dv;have:=eT m;by_cases c:0<m.co.length
 ·rw [if_pos (decide_eq_true c),if_pos c,lZa];have h2:((cF (dL m) 256).length:Int)=upI (bI m) 256:=by have h3:=fE (dL m);rw [eT] at h3;exact h3
  unfold ar;omega
 ·rw [if_neg (by rw [decide_eq_true_eq];exact c),if_neg c];exact this
theorem up_up (x:Int):upI (upI x 256) 256=upI x 256:=by unfold upI;omega
theorem kO (m:Sp):upI (cr m).length 256=ak m:=by
 rw [eY];by_cases c:0<m.co.length
 ·rw [if_pos c];rfl
 ·rw [if_neg c];unfold ak ar;rw [show ((m.co.length:Nat):Int)=0 by omega,Int.add_zero,up_up]
theorem eU (m:Sp):((cM m).length:Int)=if 0<m.da.length then ak m+m.da.length else (cr m).length:=by
 unfold cM;by_cases c:0<m.da.length
 ·rw [if_pos c,if_pos c,lZa];have h2:((cF (cr m) 256).length:Int)=ak m:=by have h3:=fE (cr m);rw [←kO];exact h3
  omega
 ·rw [if_neg c,if_neg c]
theorem gK (m:Sp):((cM m).length:Int)≤aD m:=by
 have h1:=eU m;have h2:=up8 (ak m+m.da.length);have h3:=kO m;have h4:=rT (cr m).length;unfold aD;split at h1<;>omega
theorem lr {m:Sp} (h:aZ m):((au m).length:Int)=if 0<m.tl.length then aD m+m.tl.length else if 0<m.da.length then ak m+m.da.length else if 0<m.co.length then ar m+m.co.length else bI m:=by
 have s:=h.places.small h;have p:=h.places;have h1:=eU m;have h2:=eY m;have h3:=gK m;have h4:=p.tl;unfold au;by_cases c:0<m.tl.length
 ·rw [if_pos c,if_pos c,lZa,lZa,List.length_replicate];omega
 ·rw [if_neg c,if_neg c,h1,h2]
theorem sS {x:Bu} {m:Sp} (h:aZ m) (b:uL x m):sU x=(au m).length:=by
 have p:=h.places;have s:=p.small h;have h1:=p.tl;have h2:=p.da;have h3:=h.sz;have h4:=p.co;have h5:=p.en;have h6:=p.re;have h7:=p.sy;have h8:=p.sn;have h9:=p.rn;rw [lr h];unfold sU;rw [b.i,b.co,b.da,b.tl];show (if 0<m.tl.length then IntKind.u64.wrap (aD m+m.tl.length) else if 0<m.da.length then IntKind.u64.wrap (ak m+m.da.length) else if 0<m.co.length then IntKind.u64.wrap (ar m+m.co.length) else bI m)=_;rw [cQ oZm oZm,cQ oZm oZm,cQ oZm (by omega)]
theorem js {m:Sp} (h:aZ m) (i:Nat):0≤(bl m).getD i 0∧(bl m).getD i 0≤65536:=by
 by_cases hi:i<(aG m).length
 ·unfold bl;rw [ju _ hi];have h1:=h.tab;unfold aA at h1;unfold pos;split
  ·exact ⟨by decide,by decide⟩
  ·have:=iQ (aG m) (ll (aG m) (nm (aG m) i) (aG m).length);omega
 ·have:(bl m).getD i 0=0:=by rw [gZe,List.getElem?_eq_none (by rw [ja,←eu];omega)];rfl
  rw [this];exact ⟨by decide,by decide⟩
theorem jt {x:Int} (h0:0≤x) (h1:x≤4294967295):IntKind.u32.wrap x=x:=by rw [IntKind.wrap_u32];omega
theorem nF {m:Sp} {d:Df} {p:Int} (hd:0≤d.wh∧d.wh≤3) (h0:0≤p∧p≤65536):jQ (biB m) d p=cE m d p:=by
 unfold jQ cE nH jP jX;rw [jt h0.1 (by omega)];show (⟨p,_,0,_,(if d.wh=1 then IntKind.u64.wrap (ar m+d.of) else if d.wh=2 then IntKind.u64.wrap (ak m+d.of) else if d.wh=3 then d.of else 0),0⟩:Sy)=_;rw [Int.add_comm (ar m),Int.add_comm (ak m)];have h:d.wh=0∨d.wh=1∨d.wh=2∨d.wh=3:=by omega
 rcases h with e | e | e | e<;>rw [e]<;>rfl
theorem tU:bq Sy.zero=List.replicate 24 0:=by decide
theorem sd {m:Sp} {b:Bm} (h:aZ m) (hm:b.m=m) (hi:b.i=biB m) (hp:b.pd=(bl m).drop (1+m.nd.length)) :
 (fI b).flatMap bq=(if 0<m.df.length then List.replicate 24 0 else [])++(cW m m.df.length).flatMap bq:=by
 have e:fG b m.df.length=cW m m.df.length:=by
  unfold fG cW;apply List.map_congr_left
  intro j hj;rw [List.mem_range] at hj;rw [hm,hi,hp];have e1:((bl m).drop (1+m.nd.length)).getD j 0=(bl m).getD (1+m.nd.length+j) 0:=by
   rw [gZe,List.getElem?_drop,←gZe]
  rw [e1];refine nF (h.df _ ?_) (js h _);rw [gZe,gZg hj];exact List.getElem_mem hj
 unfold fI;rw [hm,e];by_cases c:m.df.length=0
 ·rw [if_pos c,if_neg oZm,c];rfl
 ·rw [if_neg c,if_pos oZm,List.flatMap_cons,tU]
theorem uH {m:Sp} {b:Bm} (h:aZ m) (hm:b.m=m) (hi:b.i=biB m):dJ b m.fx.length=ce m m.fx.length:=by
 unfold dJ ce;apply List.map_congr_left
 intro j hj;rw [List.mem_range] at hj;rw [hm,hi];have hf:=h.fx (m.fx.getD j Fx.zero) (by rw [gZe,gZg hj];exact List.getElem_mem hj);generalize m.fx.getD j Fx.zero=f at hf;unfold kD fB jX;have hd:=h.dfl;have e1:(if 0≤f.df then IntKind.u32.wrap (1+IntKind.u32.wrap f.df) else 0)=(if 0≤f.df then f.df+1 else 0):=by
  split
  ·rw [jt (x:=f.df) oZm oZm,jt oZm oZm,Int.add_comm]
  ·rfl
 rw [e1];show (⟨(if f.wh=1 then IntKind.u64.wrap (ar m+f.of) else if f.wh=2 then IntKind.u64.wrap (ak m+f.of) else if f.wh=3 then f.of else 0),f.ty,_,f.ad⟩:Rl)=_;rw [Int.add_comm (ar m),Int.add_comm (ak m)];rcases hf.1 with e | e<;>rw [e]<;>rfl
def Zx (n:Nat) (R:List Int):List Int:=R++List.replicate (n-R.length) 0
theorem kU (F:List Int) (p:Nat):splice F p []=F:=by unfold splice;simp
theorem tv {n j:Nat} {R:List Int} (h:R.length+j≤n):Zx n (R++List.replicate j 0)=Zx n R:=by
 unfold Zx;rw [lZa,List.length_replicate,List.append_assoc,List.replicate_append_replicate]
 congr 2
 omega
theorem iy {n:Nat} {R ps:List Int} (h:R.length+ps.length≤n):splice (Zx n R) R.length ps=Zx n (R++ps):=by
 unfold splice Zx;rw [List.take_left,List.append_assoc]
 congr 2
 rw [List.drop_append,List.drop_eq_nil_of_le oZm,List.nil_append,List.drop_replicate,lZa]
 congr 1
 omega
theorem pj {n p:Nat} {R ps:List Int} (h1:R.length≤p) (h2:p+ps.length≤n):splice (Zx n R) p ps=Zx n (R++(List.replicate (p-R.length) 0++ps)):=by
 have e:(R++List.replicate (p-R.length) (0:Int)).length=p:=by rw [lZa,List.length_replicate];omega
 rw [←tv (n:=n) (R:=R) (j:=p-R.length) oZm,←List.append_assoc];have:=iy (n:=n) (R:=R++List.replicate (p-R.length) 0) (ps:=ps) oZm;rw [e] at this;exact this
theorem qx {n:Nat} {R:List Int} (h:R.length=n):Zx n R=R:=by unfold Zx;rw [h,Nat.sub_self];simp
theorem vZ (n:Nat):Zx n []=List.replicate n 0:=by unfold Zx;simp
theorem tt (zs:List Int) (n:Nat) (p:Nat) (h:(cF zs n).length=p):cF zs n=zs++List.replicate (p-zs.length) 0:=by
 have:(cF zs n).length=zs.length+kj zs.length n:=by unfold cF;rw [lZa,List.length_replicate]
 unfold cF
 congr 2
 omega
theorem rK {m:Sp} (h:aZ m) (n Dy V1 V3 V5 Cp Dp Tp:Nat) (hn:(au m).length=n) (e1:bp m=Dy) (e2:cK m=V1) (e3:dN m=V3) (e4:ez m=V5) (e5:ar m=Cp) (e6:ak m=Dp) (e7:aD m=Tp) (E4:List Int)
 (h4:E4=(if 0<m.df.length then List.replicate 24 0 else [])++(cW m m.df.length).flatMap bq) :
 kT n [(0,enc m.k (cz m) 64 (aF m)),(64,(eo m).flatMap bH),(Dy,bf (bK m) (vB m)),(V1,aA m),(V3,E4),(V5,(ce m m.fx.length).flatMap bP),(Cp,m.co),(Dp,m.da),(Tp,m.tl)]=au m:=by
 have p:=h.places;have s:=p.small h;have hf:=lr h;rw [hn] at hf;have p1:=p.tl;have p2:=p.da;have p3:=h.sz;have p4:=p.co;have p5:=p.en;have p6:=p.re;have p7:=p.sy;have p8:=p.sn;have p9:=p.rn;have p10:=p.st;have p11:=p.sz;have p12:=p.dy;have p13:=p.c;have l1:=mb m;have l2:=je m;have l3:=jD m;have l4:=eT m;have l5:=eY m;have l6:=eU m;have l7:=gK m;have hge:bI m≤n:=by split at hf;omega;split at hf;omega;split at hf<;>omega
 unfold kT;simp only [List.foldl_cons,List.foldl_nil];rw [←vZ];have a1:=dZ m.k (cz m) 64 (aF m);have a2:=flat_len bH 56 bB (eo m);have a3:=iY m;have a4:=ii m;have hfr:eh m=enc m.k (cz m) 64 (aF m)++(eo m).flatMap bH++bf (bK m) (vB m):=rfl;have hsz:aW m=(bf (bK m) (v0B m)).length:=rfl;have hhd:cN m=cF (eh m++aA m) 8:=rfl;have hsy:dO m=cN m++E4:=by rw [h4];rfl
 have hre:dL m=dO m++(ce m m.fx.length).flatMap bP:=rfl;have hco:cr m=if dv m then cF (dL m) 256++m.co else dL m:=rfl;have hda:cM m=if 0<m.da.length then cF (cr m) 256++m.da else cr m:=rfl;have hfl:au m=if 0<m.tl.length then cM m++(List.replicate ((aD m).toNat-(cM m).length) 0++m.tl) else cM m:=rfl;have hup:=kO m;have hcb:ar m=upI (bI m) 256:=rfl;clear h4;generalize enc m.k (cz m) 64 (aF m)=A1 at *;generalize (eo m).flatMap bH=A2 at *;generalize bf (bK m) (vB m)=A3 at *;generalize (ce m m.fx.length).flatMap bP=A5 at *;generalize eh m=FR at *;generalize cN m=HD at *;generalize dO m=SY at *;generalize dL m=RE at *;generalize cr m=CO at *;generalize cM m=DA at *;have b1:A1.length+A2.length+A3.length=FR.length:=by rw [hfr,lZa,lZa]
 have b2:HD.length+E4.length=SY.length:=by rw [hsy,lZa]
 have b3:SY.length+A5.length=RE.length:=by rw [hre,lZa]
 have s1:splice (Zx n []) 0 A1=Zx n A1:=iy (R:=[]) (by simp;omega);rw [s1];have s2:splice (Zx n A1) 64 A2=Zx n (A1++A2):=by have:=iy (n:=n) (R:=A1) (ps:=A2) oZm;rw [a1] at this;exact this
 rw [s2];have d1:(A1++A2).length=Dy:=by rw [lZa];omega
 have s3:splice (Zx n (A1++A2)) Dy A3=Zx n FR:=by have:=iy (n:=n) (R:=A1++A2) (ps:=A3) oZm;rw [d1] at this;rw [hfr];exact this
 rw [s3];have s4:splice (Zx n FR) V1 (aA m)=Zx n HD:=by
  have h1:=iy (n:=n) (R:=FR) (ps:=aA m) oZm;rw [show FR.length=V1 by omega] at h1;rw [h1,hhd];unfold cF;refine (tv ?_).symm;have:(cF (FR++aA m) 8).length=HD.length:=by rw [hhd]
  unfold cF at this;rw [lZa,List.length_replicate] at this;omega
 rw [s4];have s5:splice (Zx n HD) V3 E4=Zx n SY:=by have h1:=iy (n:=n) (R:=HD) (ps:=E4) oZm;rw [show HD.length=V3 by omega] at h1;rw [hsy];exact h1
 rw [s5];have s6:splice (Zx n SY) V5 A5=Zx n RE:=by have h1:=iy (n:=n) (R:=SY) (ps:=A5) oZm;rw [show SY.length=V5 by omega] at h1;rw [hre];exact h1
 rw [s6];have s7:splice (Zx n RE) Cp m.co=Zx n CO:=by
  by_cases c:0<m.co.length
  ·rw [if_pos c] at l5;unfold dv at hco;rw [if_pos (decide_eq_true c)] at hco;have hpl:(cF RE 256).length=Cp:=by have h1:=fE RE;rw [l4,←hcb] at h1;omega
   rw [pj oZm (by (repeat' split at hf)<;>omega),hco,tt RE 256 Cp hpl,List.append_assoc]
  ·unfold dv at hco;rw [if_neg (by rw [decide_eq_true_eq];exact c)] at hco;rw [List.eq_nil_of_length_eq_zero (show m.co.length=0 by omega),kU,hco]
 rw [s7];have s8:splice (Zx n CO) Dp m.da=Zx n DA:=by
  by_cases c:0<m.da.length
  ·rw [if_pos c] at hda;have hpl:(cF CO 256).length=Dp:=by have h1:=fE CO;rw [hup] at h1;omega
   have hle:CO.length≤Dp:=by rw [←hpl];unfold cF;rw [lZa];omega
   rw [pj hle (by (repeat' split at hf)<;>omega),hda,tt CO 256 Dp hpl,List.append_assoc]
  ·rw [if_neg c] at hda;rw [List.eq_nil_of_length_eq_zero (show m.da.length=0 by omega),kU,hda]
 rw [s8];by_cases c:0<m.tl.length
 ·rw [if_pos c] at hfl hf;rw [pj oZm oZm,hfl,show (aD m).toNat=Tp by omega];refine qx ?_;rw [lZa,lZa,List.length_replicate];omega
 ·rw [if_neg c] at hfl;rw [List.eq_nil_of_length_eq_zero (show m.tl.length=0 by omega),kU,hfl];refine qx ?_;rw [←hn,hfl]
theorem tN (B:Nat) (x:Spv) (m:Sp) (w:World) (h:x.Is w B m) (hB:B≤w.heap.size) (l1:m.co.length≤140737488355328) (l2:m.da.length≤140737488355328) (l3:m.tl.length≤140737488355328) (l4:m.df.length≤140737488355328) (l5:m.fx.length≤140737488355328) :
 Calls Tryz.prog 34 #[x.val] w fun r w'=>r=.returned (.int .i64 (gt m))∧Below w.heap.size w w':=by
 obtain ⟨r,hr⟩:∃r,gt m=r:=⟨_,rfl⟩
 rw [hr];have HR:=hZz hr;clear hr;obtain ⟨k,so,nd,en,⟨coa,con,coc⟩,⟨daa,dan,dac⟩,bs,⟨tla,tln,tlc⟩,tb,⟨dfa,dfn,dfc⟩,⟨fxa,fxn,fxc⟩⟩:=x;have HX:=hZz h;have hk:=h.k;have hbs:=h.bs;have htb:=h.tb;have bk:=h.bk;have bbs:=h.bbs;have btb:=h.btb;have hco:=h.co.1;have hda:=h.da.1;have htl:=h.tl.1;have hdf:=h.df.hl;have hfx:=h.fx.hl;simp only at hk hbs htb hco hda htl hdf hfx;have HKE:=hZz (show k=m.k∧bs=m.bs∧tb=m.tb from ⟨hk,hbs,htb⟩);rw [←hk] at bk;rw [←hbs] at bbs;rw [←htb] at btb;obtain ⟨bk0,bk1⟩:=bk;obtain ⟨bbs0,bbs1⟩:=bbs;obtain ⟨btb0,btb1⟩:=btb;have HL:=hZz (show m.co.length=con∧m.da.length=dan∧m.tl.length=tln∧m.df.length=dfn∧m.fx.length=fxn from ⟨hco,hda,htl,hdf,hfx⟩);rw [hco] at l1;rw [hda] at l2;rw [htl] at l3;rw [hdf] at l4;rw [hfx] at l5;have HDF:=hZz h.df;have HFX:=hZz h.fx;have i1:(con:Int)≤140737488355328:=by omega
 have i2:(dan:Int)≤140737488355328:=by omega
 have i3:(tln:Int)≤140737488355328:=by omega
 have i4:(dfn:Int)≤140737488355328:=by omega
 have i5:(fxn:Int)≤140737488355328:=by omega
 clear h hk hbs htb hco hda htl hdf hfx;unfold Spv.val;simp only
 have HBL:Hid (∀o,Below w.heap.size w (w.alloc o)):=hZz (fun o=>(Below.refl _ _).alloc (lZr _) o);by_cases hkk:k≠2∧k≠3
 ·have HE:Hid (r=1):=hZz (by rw [←HR.out];unfold gt;rw [←HKE.out.1,if_pos hkk]);have hk2:(k != 2)=true:=by rw [bne_iff_ne];exact hkk.1
  have hk3:(k != 3)=true:=by rw [bne_iff_ne];exact hkk.2
  go_enter Tryz.func34,Tryz.ntmps34
  go_wp2;go_ret;exact ⟨by rw [HE.out];rfl,HBL.out _⟩
 ·have HR2:Hid (r=if m.df.any dz then 1 else if m.fx.any (dx m.df.length) then 1 else if 1048576<m.bs∨1048576<m.tb∨65536<m.co.length+m.da.length+m.tl.length then 13 else 0):=hZz (by rw [←HR.out];unfold gt;rw [←HKE.out.1,if_neg hkk]);have hkor:k=2∨k=3:=by omega
  clear HR hkk;have HXD:Hid (∀q,q<dfn→dz (m.df.getD q Df.zero)=true→r=1):=hZz (fun q hq h=>by rw [HR2.out,mF Df.zero (by rw [HL.out.2.2.2.1];exact hq) h];rfl);have HYD:Hid ((∀q,q<dfn→dz (m.df.getD q Df.zero)=false)→r=if m.fx.any (dx m.df.length) then 1 else if 1048576<m.bs∨1048576<m.tb∨65536<m.co.length+m.da.length+m.tl.length then 13 else 0):=hZz (fun h=>by rw [HR2.out,my Df.zero (by rw [HL.out.2.2.2.1];exact h)];rfl);clear HR2;go_enter Tryz.func34,Tryz.ntmps34
  go_upto_region 1 with fail
  go_cut [12] (fun v wx=>v=.bool false∧wx=w.alloc (.cells #[.int .i64 k,.string so,.slice nd.a nd.n nd.c,.int .u64 en,.slice coa con coc,.slice daa dan dac,.int .u64 bs,.slice tla tln tlc,.int .u64 tb,.slice dfa dfn dfc,.slice fxa fxn fxc] 55))
  case first=>
   rcases hkor with hk2 | hk3
   ·have h2:(k != 2)=false:=by rw [hk2];rfl
    clear hk2;go_wp2;go_meet
    case rel=>exact ⟨rfl,rfl⟩
   ·have h2:(k != 2)=true:=by rw [hk3];rfl
    have h3:(k != 3)=false:=by rw [hk3];rfl
    clear hk3;go_wp2;go_meet
    case rel=>exact ⟨rfl,rfl⟩
  case rest=>
   obtain ⟨rfl,rfl⟩:=hcut;clear hkor;go_wp2;go_loop [3] (fun i=>∃q:Nat,q≤dfn∧i=.int .i64 q∧∀j,j<q→dz (m.df.getD j Df.zero)=false) (fun i=>dfn-(intOf i).toNat)
   case atStart=>exact ⟨0,Nat.zero_le _,rfl,fun j hj=>absurd hj oZm⟩
   case round=>
    obtain ⟨q,hq,rfl,hno⟩:=hrel;by_cases hlt:q<dfn
    ·obtain ⟨b,off,hdfa,hbB,hcell⟩:=HDF.out.hc oZm;subst hdfa;obtain ⟨c0,c1,c2,c3⟩:=hcell q hlt;have hbw:b<w.heap.size:=Nat.lt_of_lt_of_le hbB hB;have hqi:(q:Int)<dfn:=by omega
     have HX1:=hZz (HXD.out q hlt);have HNX:=hZz (fun h=>ia (P:=fun j=>dz (m.df.getD j Df.zero)=false) hno h);have hok:=(HDF.out.okAt hlt).wh;generalize m.df.getD q Df.zero=d at c0 c1 c2 c3 HX1 HNX hok;obtain ⟨dn,dw,dof,dk⟩:=d;simp only at c0 c1 c2 c3 hok;obtain ⟨hw0,hw1⟩:=hok;clear hcell hno;by_cases hn:dw<0
     ·have HE:=hZz (HX1.out (by unfold dz;rw [decide_eq_true_eq];exact .inl hn));go_wp2;go_ret;exact ⟨by rw [HE.out];rfl,HBL.out _⟩
     ·by_cases h3:3<dw
      ·have HE:=hZz (HX1.out (by unfold dz;rw [decide_eq_true_eq];exact .inr h3));go_wp2;go_ret;exact ⟨by rw [HE.out];rfl,HBL.out _⟩
      ·have HN:=hZz (HNX.out (by unfold dz;rw [decide_eq_false_iff_not];simp only;omega));go_wp2;go_round
       case rel=>exact ⟨q+1,by omega,by go_num,HN.out⟩
       case measure=>(simp [intOf]<;>omega)
    ·obtain rfl:q=dfn:=by omega
     have HR3:=hZz (HYD.out hno);have HLD:=hZz HL.out.2.2.2.1;clear hno hlt;have HXF:Hid (∀z,z<fxn→dx (m.df.length) (m.fx.getD z Fx.zero)=true→r=1):=hZz (fun z hz h=>by rw [HR3.out,mF Fx.zero (by rw [HL.out.2.2.2.2];exact hz) h];rfl);have HYF:Hid ((∀z,z<fxn→dx (m.df.length) (m.fx.getD z Fx.zero)=false)→r=if 1048576<m.bs∨1048576<m.tb∨65536<m.co.length+m.da.length+m.tl.length then 13 else 0):=hZz (fun h=>by rw [HR3.out,my Fx.zero (by rw [HL.out.2.2.2.2];exact h)];rfl);rw [HLD.out] at HXF HYF;have HBX:Hid (Blk (w.alloc (.cells #[.int .i64 k,.string so,.slice nd.a nd.n nd.c,.int .u64 en,.slice coa con coc,.slice daa dan dac,.int .u64 bs,.slice tla tln tlc,.int .u64 tb,.slice dfa q dfc,.slice fxa fxn fxc] 55)) w.heap.size #[.int .i64 k,.string so,.slice nd.a nd.n nd.c,.int .u64 en,.slice coa con coc,.slice daa dan dac,.int .u64 bs,.slice tla tln tlc,.int .u64 tb,.slice dfa q dfc,.slice fxa fxn fxc] 55):=hZz (Blk.new _ _ _);have HB0:=hZz (HBL.out (.cells #[.int .i64 k,.string so,.slice nd.a nd.n nd.c,.int .u64 en,.slice coa con coc,.slice daa dan dac,.int .u64 bs,.slice tla tln tlc,.int .u64 tb,.slice dfa q dfc,.slice fxa fxn fxc] 55));clear HR3 HLD;go_wp2;go_loopw [4] (fun i wr=>∃z:Nat,z≤fxn∧i=.int .i64 z∧(∀j,j<z→dx q (m.fx.getD j Fx.zero)=false)∧Below w.heap.size w wr∧Blk wr w.heap.size #[.int .i64 k,.string so,.slice nd.a nd.n nd.c,.int .u64 en,.slice coa con coc,.slice daa dan dac,.int .u64 bs,.slice tla tln tlc,.int .u64 tb,.slice dfa q dfc,.slice fxa fxn fxc] 55) (fun i _=>fxn-(intOf i).toNat)
     case atStart=>exact ⟨0,Nat.zero_le _,rfl,fun j hj=>absurd hj oZm,HB0.out,HBX.out⟩
     case round=>
      obtain ⟨z,hz,rfl,hno,hbel,hbx⟩:=hrel;have x9:wr.cell? ⟨w.heap.size,9,none⟩=some (.slice dfa q dfc):=hbx.cell 9;have x10:wr.cell? ⟨w.heap.size,10,none⟩=some (.slice fxa fxn fxc):=hbx.cell 10;have HBE:=hZz hbel;have HXB:=hZz hbx;by_cases hlt:z<fxn
      ·obtain ⟨b,off,hfxa,hbB,hcell⟩:=HFX.out.hc oZm;subst hfxa;obtain ⟨c0,c1,c2,c3,c4⟩:=(hcell z hlt).below (hbel.mono hB) hbB;have hzi:(z:Int)<fxn:=by omega
       have HX1:=hZz (HXF.out z hlt);have HNX:=hZz (fun h=>ia (P:=fun j=>dx q (m.fx.getD j Fx.zero)=false) hno h);have hok1:=(HFX.out.okAt hlt).wh;have hok2:=(HFX.out.okAt hlt).df;generalize m.fx.getD z Fx.zero=f at c0 c1 c2 c3 c4 HX1 HNX hok1 hok2;obtain ⟨fw,fof,ft,fd,fa⟩:=f;simp only at c0 c1 c2 c3 c4 hok1 hok2;obtain ⟨hw0,hw1⟩:=hok1;obtain ⟨hd0,hd1⟩:=hok2;unfold dx at HX1;simp only [decide_eq_true_eq] at HX1;clear hcell hno hbel hbx;by_cases hw:fw=1∨fw=2
       ·by_cases hd:(q:Int)≤fd
        ·have HE:=hZz (HX1.out (.inr hd));have hdb:decide ((q:Int)≤fd)=true:=by rw [decide_eq_true_eq];exact hd
         rcases hw with hw | hw
         ·have e1:(fw != 1)=false:=by rw [hw];rfl
          clear hw;go_wp2;go_quiet (fail)
          go_wp2;go_ret;exact ⟨by rw [HE.out];rfl,aN HBE.out _⟩
         ·have e1:(fw != 1)=true:=by rw [hw];rfl
          have e2:(fw != 2)=false:=by rw [hw];rfl
          clear hw;go_wp2;go_quiet (fail)
          go_wp2;go_ret;exact ⟨by rw [HE.out];rfl,aN HBE.out _⟩
        ·have HN:=hZz (HNX.out (by unfold dx;rw [decide_eq_false_iff_not];simp only;omega));have hdb:decide ((q:Int)≤fd)=false:=by rw [decide_eq_false_iff_not];exact hd
         rcases hw with hw | hw
         ·have e1:(fw != 1)=false:=by rw [hw];rfl
          clear hw;go_wp2;go_quiet (fail)
          go_wp2;go_roundw
          case rel=>exact ⟨z+1,by omega,by go_num,HN.out,aN HBE.out _,HXB.out.later (aN (Below.refl _ _) _)⟩
          case measure=>(simp [intOf]<;>omega)
         ·have e1:(fw != 1)=true:=by rw [hw];rfl
          have e2:(fw != 2)=false:=by rw [hw];rfl
          clear hw;go_wp2;go_quiet (fail)
          go_wp2;go_roundw
          case rel=>exact ⟨z+1,by omega,by go_num,HN.out,aN HBE.out _,HXB.out.later (aN (Below.refl _ _) _)⟩
          case measure=>(simp [intOf]<;>omega)
       ·have HE:=hZz (HX1.out (.inl ⟨fun e=>hw (.inl e),fun e=>hw (.inr e)⟩));have e1:(fw != 1)=true:=by rw [bne_iff_ne];exact fun e=>hw (.inl e)
        have e2:(fw != 2)=true:=by rw [bne_iff_ne];exact fun e=>hw (.inr e)
        clear hw;go_wp2;go_quiet (fail)
        go_wp2;go_ret;exact ⟨by rw [HE.out];rfl,aN HBE.out _⟩
      ·obtain rfl:z=fxn:=by omega
       have HR4:=hZz (HYF.out hno);have x4:wr.cell? ⟨w.heap.size,4,none⟩=some (.slice coa con coc):=hbx.cell 4;have x5:wr.cell? ⟨w.heap.size,5,none⟩=some (.slice daa dan dac):=hbx.cell 5;have x6:wr.cell? ⟨w.heap.size,6,none⟩=some (.int .u64 bs):=hbx.cell 6;have x7:wr.cell? ⟨w.heap.size,7,none⟩=some (.slice tla tln tlc):=hbx.cell 7;have x8:wr.cell? ⟨w.heap.size,8,none⟩=some (.int .u64 tb):=hbx.cell 8;have HR5:Hid (r=if 1048576<bs∨1048576<tb∨65536<con+dan+tln then 13 else 0):=hZz (by rw [HR4.out,HKE.out.2.1,HKE.out.2.2,HL.out.1,HL.out.2.1,HL.out.2.2.1]);clear hno hbel hbx HR4 HXF HYF;by_cases g1:1048576<bs
       ·have HE:Hid (r=13):=hZz (by rw [HR5.out,if_pos (.inl g1)]);go_wp2;go_ret;exact ⟨by rw [HE.out];rfl,HBE.out⟩
       ·by_cases g2:1048576<tb
        ·have HE:Hid (r=13):=hZz (by rw [HR5.out,if_pos (.inr (.inl g2))]);go_wp2;go_ret;exact ⟨by rw [HE.out];rfl,HBE.out⟩
        ·by_cases g3:65536<con+dan+tln
         ·have HE:Hid (r=13):=hZz (by rw [HR5.out,if_pos (.inr (.inr g3))]);have g3i:(65536:Int)<con+dan+tln:=by omega
          go_wp2;go_ret;exact ⟨by rw [HE.out];rfl,HBE.out⟩
         ·have HE:Hid (r=0):=hZz (by rw [HR5.out,if_neg (by omega)]);have g3i:¬(65536:Int)<con+dan+tln:=by omega
          go_wp2;go_ret;exact ⟨by rw [HE.out];rfl,HBE.out⟩
def bV (m:Sp):Bool:=!(m.df.any dz) && !(m.fx.any (dx m.df.length)) && (m.k==2 || m.k==3)
theorem pD (B:Nat) (x:Spv) (m:Sp) (w:World) (h:x.Is w B m) (hB:B≤w.heap.size) (l4:m.df.length≤1000000) (l5:m.fx.length≤1000000) :
 Calls Tryz.prog 27 #[x.val] w fun r w'=>r=.returned (.bool (bV m))∧Below w.heap.size w w':=by
 obtain ⟨R,hR⟩:∃R,bV m=R:=⟨_,rfl⟩
 rw [hR];have hk:=h.k;have HDF:=hZz h.df;have HFX:=hZz h.fx;have hdf:=h.df.hl;have hfx:=h.fx.hl;obtain ⟨k,so,⟨nda,ndn,ndc⟩,en,⟨coa,con,coc⟩,⟨daa,dan,dac⟩,bz,⟨tla,tln,tlc⟩,tz,⟨dfa,dfn,dfc⟩,⟨fxa,fxn,fxc⟩⟩:=x;simp only at hk hdf hfx HDF HFX;have HXD:Hid (∀q,q<dfn→dz (m.df.getD q Df.zero)=true→R=false):=hZz (fun q hq h=>by rw [←hR];unfold bV;rw [mF Df.zero (by rw [hdf];exact hq) h];rfl);have HXF:Hid (∀q,q<fxn→dx dfn (m.fx.getD q Fx.zero)=true→R=false):=hZz (fun q hq h=>by rw [←hR];unfold bV;rw [hdf,mF Fx.zero (by rw [hfx];exact hq) h];simp);have HEN:Hid ((∀q,q<dfn→dz (m.df.getD q Df.zero)=false)→(∀q,q<fxn→dx dfn (m.fx.getD q Fx.zero)=false)→R=(k==2 || k==3)):=hZz (fun h1 h2=>by
  rw [←hR];unfold bV;rw [hdf,my Df.zero (by rw [hdf];exact h1),my Fx.zero (by rw [hfx];exact h2),hk];rfl)
 rw [hdf] at l4;rw [hfx] at l5;have i4:(dfn:Int)≤1000000:=by omega
 have i5:(fxn:Int)≤1000000:=by omega
 have HMB:=hZz (fun w1=>kH k w1);clear h hR hk hdf hfx l4 l5;unfold Spv.val;simp only
 have HBE0:Hid (Below w.heap.size w (w.alloc (.cells #[.int .i64 k,.string so,.slice nda ndn ndc,.int .u64 en,.slice coa con coc,.slice daa dan dac,.int .u64 bz,.slice tla tln tlc,.int .u64 tz,.slice dfa dfn dfc,.slice fxa fxn fxc] 47))):=hZz ((Below.refl _ _).alloc (lZr _) _);have HBX0:Hid (Blk (w.alloc (.cells #[.int .i64 k,.string so,.slice nda ndn ndc,.int .u64 en,.slice coa con coc,.slice daa dan dac,.int .u64 bz,.slice tla tln tlc,.int .u64 tz,.slice dfa dfn dfc,.slice fxa fxn fxc] 47)) w.heap.size #[.int .i64 k,.string so,.slice nda ndn ndc,.int .u64 en,.slice coa con coc,.slice daa dan dac,.int .u64 bz,.slice tla tln tlc,.int .u64 tz,.slice dfa dfn dfc,.slice fxa fxn fxc] 47):=hZz (Blk.new _ _ _);go_enter Tryz.func27,Tryz.ntmps27
 go_wp2;go_loopw [10] (fun i wr=>∃q:Nat,q≤dfn∧i=.int .i64 q∧(∀j,j<q→dz (m.df.getD j Df.zero)=false)∧Below w.heap.size w wr∧Blk wr w.heap.size #[.int .i64 k,.string so,.slice nda ndn ndc,.int .u64 en,.slice coa con coc,.slice daa dan dac,.int .u64 bz,.slice tla tln tlc,.int .u64 tz,.slice dfa dfn dfc,.slice fxa fxn fxc] 47) (fun i _=>dfn-(intOf i).toNat)
 case atStart=>exact ⟨0,Nat.zero_le _,rfl,fun j hj=>absurd hj oZm,HBE0.out,HBX0.out⟩
 case round=>
  obtain ⟨q,hq,rfl,hno,hbel,hblk⟩:=hrel;have HB:=hZz hbel;have HK:=hZz hblk;have hsz:=hbel.size;by_cases hlt:q<dfn
  ·obtain ⟨b,off,hdfa,hbB,hcell⟩:=HDF.out.hc oZm;subst hdfa;have hbw0:b<w.heap.size:=Nat.lt_of_lt_of_le hbB hB;obtain ⟨c0,c1,c2,c3⟩:=(hcell q hlt).below hbel hbw0;have hbw:b<wr.heap.size:=by omega
   have hqi:(q:Int)<dfn:=by omega
   have HX1:=hZz (HXD.out q hlt);have HNX:=hZz (fun h=>ia (P:=fun j=>dz (m.df.getD j Df.zero)=false) hno h);have hok:=(HDF.out.okAt hlt).wh;generalize m.df.getD q Df.zero=d at c0 c1 c2 c3 HX1 HNX hok;obtain ⟨dn,dw,dof,dk⟩:=d;simp only at c0 c1 c2 c3 hok;obtain ⟨hw0,hw1⟩:=hok;have HBA:Hid (Below w.heap.size w (wr.alloc (.cells #[.string dn,.int .i64 dw,.int .u64 dof,.bool dk] 61))):=hZz (hbel.alloc hsz _);have HKA:=hZz (hblk.alloc (.cells #[.string dn,.int .i64 dw,.int .u64 dof,.bool dk] 61));clear hcell hno hbel hblk;by_cases hn:dw<0
   ·have HE:=hZz (HX1.out (by unfold dz;rw [decide_eq_true_eq];exact .inl hn));go_wp2;go_ret;exact ⟨by rw [HE.out];rfl,HBA.out⟩
   ·by_cases h3:3<dw
    ·have HE:=hZz (HX1.out (by unfold dz;rw [decide_eq_true_eq];exact .inr h3));go_wp2;go_ret;exact ⟨by rw [HE.out];rfl,HBA.out⟩
    ·have HN:=hZz (HNX.out (by unfold dz;rw [decide_eq_false_iff_not];simp only;omega));go_wp2;go_roundw
     case rel=>exact ⟨q+1,by omega,by go_num,HN.out,HBA.out,HKA.out⟩
     case measure=>(simp [intOf]<;>omega)
  ·obtain rfl:q=dfn:=by omega
   have HEN2:=hZz (HEN.out hno);have hfz:wr.cell? ⟨w.heap.size,10,none⟩=some (.slice fxa fxn fxc):=hblk.cell 10;have hlw:=hblk.lt;clear hno hlt hbel hblk HEN HXD HBE0 HBX0;go_wp2;obtain ⟨wo,hwo⟩:∃wo:World,wo=wr:=⟨_,rfl⟩
   go_loopw [26] (fun i wr=>∃z:Nat,z≤fxn∧i=.int .i64 z∧(∀j,j<z→dx q (m.fx.getD j Fx.zero)=false)∧Below w.heap.size w wr∧Blk wr w.heap.size #[.int .i64 k,.string so,.slice nda ndn ndc,.int .u64 en,.slice coa con coc,.slice daa dan dac,.int .u64 bz,.slice tla tln tlc,.int .u64 tz,.slice dfa q dfc,.slice fxa fxn fxc] 47) (fun i _=>fxn-(intOf i).toNat)
   case atStart=>exact ⟨0,Nat.zero_le _,rfl,fun j hj=>absurd hj oZm,HB.out,HK.out⟩
   case round=>
    clear hwo hfz hlw HB HK;obtain ⟨z,hz,rfl,hno,hbel,hblk⟩:=hrel;have HB:=hZz hbel;have HK:=hZz hblk;have hsz:=hbel.size;have hlw:=hblk.lt;by_cases hlt:z<fxn
    ·obtain ⟨b,off,hfxa,hbB,hcell⟩:=HFX.out.hc oZm;subst hfxa;have hbw0:b<w.heap.size:=Nat.lt_of_lt_of_le hbB hB;obtain ⟨c0,c1,c2,c3,c4⟩:=(hcell z hlt).below hbel hbw0;have hbw:b<wr.heap.size:=by omega
     have hzi:(z:Int)<fxn:=by omega
     have HX1:=hZz (HXF.out z hlt);have HNX:=hZz (fun h=>ia (P:=fun j=>dx q (m.fx.getD j Fx.zero)=false) hno h);have hok:=HFX.out.okAt hlt;generalize m.fx.getD z Fx.zero=f at c0 c1 c2 c3 c4 HX1 HNX hok;have hw:=hok.wh;have hd:=hok.df;obtain ⟨fw,fo,ft,fd,fa⟩:=f;simp only at c0 c1 c2 c3 c4 hw hd;obtain ⟨hw0,hw1⟩:=hw;obtain ⟨hd0,hd1⟩:=hd;have HBA:Hid (Below w.heap.size w (wr.alloc (.cells #[.int .i64 fw,.int .u64 fo,.int .u32 ft,.int .i64 fd,.int .i64 fa] 101))):=hZz (hbel.alloc hsz _);have HKA:=hZz (hblk.alloc (.cells #[.int .i64 fw,.int .u64 fo,.int .u32 ft,.int .i64 fd,.int .i64 fa] 101));have q9:wr.cell? ⟨w.heap.size,9,none⟩=some (.slice dfa q dfc):=hblk.cell 9;clear hcell hno hbel hblk hok;by_cases h12:fw=1∨fw=2
     ·have e1:(fw != 1 && fw != 2)=false:=by rcases h12 with h | h<;>rw [h]<;>rfl
      by_cases hdd:(q:Int)≤fd
      ·have HE:=hZz (HX1.out (by unfold dx;rw [decide_eq_true_eq];exact .inr hdd));rcases h12 with h | h
       ·have b1:(fw != 1)=false:=by rw [h];rfl
        clear h e1;go_wp2;go_ret;exact ⟨by rw [HE.out];rfl,HBA.out⟩
       ·have b1:(fw != 1)=true:=by rw [h];rfl
        have b2:(fw != 2)=false:=by rw [h];rfl
        clear h e1;go_wp2;go_ret;exact ⟨by rw [HE.out];rfl,HBA.out⟩
      ·have HN:=hZz (HNX.out (by unfold dx;rw [decide_eq_false_iff_not];simp only;omega));rcases h12 with h | h
       ·have b1:(fw != 1)=false:=by rw [h];rfl
        clear h e1;go_wp2;go_roundw
        case rel=>exact ⟨z+1,by omega,by go_num,HN.out,HBA.out,HKA.out⟩
        case measure=>(simp [intOf]<;>omega)
       ·have b1:(fw != 1)=true:=by rw [h];rfl
        have b2:(fw != 2)=false:=by rw [h];rfl
        clear h e1;go_wp2;go_roundw
        case rel=>exact ⟨z+1,by omega,by go_num,HN.out,HBA.out,HKA.out⟩
        case measure=>(simp [intOf]<;>omega)
     ·have HE:=hZz (HX1.out (by unfold dx;rw [decide_eq_true_eq];exact .inl ⟨fun e=>h12 (.inl e),fun e=>h12 (.inr e)⟩));have b1:(fw != 1)=true:=by rw [bne_iff_ne];exact fun h=>h12 (.inl h)
      have b2:(fw != 2)=true:=by rw [bne_iff_ne];exact fun h=>h12 (.inr h)
      clear h12;go_wp2;go_ret;exact ⟨by rw [HE.out];rfl,HBA.out⟩
    ·obtain rfl:z=fxn:=by omega
     have HEN3:=hZz (HEN2.out hno);have q0:wr.cell? ⟨w.heap.size,0,none⟩=some (.int .i64 k):=hblk.cell 0;clear hno hbel hblk;go_wp2_with fail;refine (HMB.out _).mono ?_;rintro r w5 ⟨rfl,rfl⟩;go_wp2;go_ret;exact ⟨by rw [HEN3.out];rfl,HB.out⟩
def cO (m:Sp):Bool:=decide (m.bs≤1048576∧m.tb≤1048576∧m.co.length+m.da.length+m.tl.length≤65536)
theorem pV (B:Nat) (x:Spv) (m:Sp) (w:World) (h:x.Is w B m) (l1:m.co.length≤1000000) (l2:m.da.length≤1000000) (l3:m.tl.length≤1000000) :
 Calls Tryz.prog 28 #[x.val] w fun r w'=>r=.returned (.bool (cO m))∧Below w.heap.size w w':=by
 obtain ⟨R,hR⟩:∃R,cO m=R:=⟨_,rfl⟩
 rw [hR];have hbs:=h.bs;have htb:=h.tb;have h1:=h.co.1;have h2:=h.da.1;have h3:=h.tl.1;have bbs:=h.bbs;have btb:=h.btb;obtain ⟨k,so,⟨nda,ndn,ndc⟩,en,⟨coa,con,coc⟩,⟨daa,dan,dac⟩,bz,⟨tla,tln,tlc⟩,tz,⟨dfa,dfn,dfc⟩,⟨fxa,fxn,fxc⟩⟩:=x;simp only at hbs htb h1 h2 h3;unfold cO at hR;rw [h1,h2,h3,←hbs,←htb] at hR;rw [h1] at l1;rw [h2] at l2;rw [h3] at l3;rw [←hbs] at bbs;rw [←htb] at btb;obtain ⟨b0,b1⟩:=bbs;obtain ⟨t0,t1⟩:=btb;have i1:(con:Int)≤1000000:=by omega
 have i2:(dan:Int)≤1000000:=by omega
 have i3:(tln:Int)≤1000000:=by omega
 clear h hbs htb h1 h2 h3;unfold Spv.val;simp only
 have HB:Hid (Below w.heap.size w (w.alloc (.cells #[.int .i64 k,.string so,.slice nda ndn ndc,.int .u64 en,.slice coa con coc,.slice daa dan dac,.int .u64 bz,.slice tla tln tlc,.int .u64 tz,.slice dfa dfn dfc,.slice fxa fxn fxc] 47))):=hZz ((Below.refl _ _).alloc (lZr _) _);have HR:=hZz hR;clear hR;by_cases c1:bz≤1048576
 ·by_cases c2:tz≤1048576
  ·by_cases c3:con+dan+tln≤65536
   ·have c3i:(con:Int)+dan+tln≤65536:=by omega
    have HE:Hid (R=true):=hZz (by rw [←HR.out,decide_eq_true_eq];exact ⟨c1,c2,c3⟩);clear c3;go_enter Tryz.func28,Tryz.ntmps28
    go_wp2;go_ret;exact ⟨by rw [HE.out];rfl,HB.out⟩
   ·have c3i:¬(con:Int)+dan+tln≤65536:=by omega
    have HE:Hid (R=false):=hZz (by rw [←HR.out,decide_eq_false_iff_not];exact fun h=>c3 h.2.2);clear c3;go_enter Tryz.func28,Tryz.ntmps28
    go_wp2;go_ret;exact ⟨by rw [HE.out];rfl,HB.out⟩
  ·have HE:Hid (R=false):=hZz (by rw [←HR.out,decide_eq_false_iff_not];exact fun h=>c2 h.2.1);go_enter Tryz.func28,Tryz.ntmps28
   go_wp2;go_ret;exact ⟨by rw [HE.out];rfl,HB.out⟩
 ·have HE:Hid (R=false):=hZz (by rw [←HR.out,decide_eq_false_iff_not];exact fun h=>c1 h.1);go_enter Tryz.func28,Tryz.ntmps28
  go_wp2;go_ret;exact ⟨by rw [HE.out];rfl,HB.out⟩
theorem eP {P:Program} {w:World} {ops:Array Oper} {rest:List Oper} {o:Oper} {a:Act} {Q:Exit→Act→World→Prop} (hgd:o.guard=none) (s x:Operand) (t:TypeId)
 (ho:o.op=.call { callee:=.builtin .append,args:=#[s,x],argTypes:=#[t,t] })
 (base:Nat) (e:TypeId) (i:TypeInfo) (z:Value) (bytes:Nat) (ht:P.underlying t=some (.slice e)) (hi:P.info? e=some i) (hz:i.zero=some z)
 (hsize:i.size=1) (hby:i.bytes=bytes) (hzs:z.cells.size=1)
 (v:Value) (n:Nat) (xs:List Value) (hs:a.eval s=v) (hown:w.ownsRow base e 1 v n xs)
 (ad:Option Addr) (m c:Nat) (B:Nat) (L:List ByteArray) (hx:a.eval x=.slice ad m c) (hst:du w B ad m L) (hc:ad=none→c=0)
 (h63:n+m≤maxLen) (hbytes:(n+m)*bytes≤140737488355328) (hbase:base≤w.heap.size)
 (h:∀v' w',w'.ownsRow base e 1 v' (n+m) (xs++L.map Value.string)→w.grownBy w' v.ownBlock→wpList P ops Q rest (a.put o.dst v') w'):wpList P ops Q (o :: rest) a w:=by
 cases ad with
 | none=>
   have hm:m=0:=by
    rcases Nat.eq_zero_or_pos m with h0 | h0
    ·exact h0
    ·obtain ⟨b,off,e,_⟩:=hst.2 h0;cases e
   subst hm;have hL:L=[]:=List.eq_nil_of_length_eq_zero hst.1;subst hL;obtain rfl:=hc rfl;refine wpList_append_own_none hgd s x t ho base e i 1 ht hi v n xs hs hown hx (h v w ?_ ⟨rfl,rfl,rfl,lZr _,fun _ _ _=>rfl⟩);simpa using hown
 | some ad=>
   refine wpList_append_own w hgd s x t ho base e i z 1 bytes ht hi hz hsize hby hzs dZc v n xs hs hown ad m c (L.map Value.string) hx (by rw [List.length_map,hst.1];omega) ?_ (uT L) h63 hbytes hbase (fun v' w' h1 h2 _=>h v' w' h1 h2);intro j u hj;have hjm:j<m:=by
    have:=(List.getElem?_eq_some_iff.1 hj).1;rw [List.length_map,hst.1] at this;exact this
   obtain ⟨b,off,e,_,hcell⟩:=hst.2 oZm;injection e with e;subst e;exact du.src hst.1 hcell j u hj
end Go.Proofs.YtclgbdfkdbbinaaGreat
