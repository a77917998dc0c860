/-
  What is proved here: words and contracts, a part of those that the statement rests on (B18).
  Conditions: none but that the arguments are values of their types.
-/
import Derived.Test.YtclgbdfkdbbinaaGreatB0
import Derived.Test.YtclgbdfkdbbinaaGreatB1
import Derived.Test.YtclgbdfkdbbinaaGreatB17
import Derived.Test.YtclgbdfkdbbinaaGreatB5
import Derived.Test.YtclgbdfkdbbinaaGreatB8
import Derived.Test.YtclgbdfkdbbinaaGreatB3
import Derived.Test.YtclgbdfkdbbinaaGreatB4
import Derived.Test.YtclgbdfkdbbinaaGreatB6
import Derived.Test.YtclgbdfkdbbinaaGreatB2
import Derived.Test.YtclgbdfkdbbinaaGreatB9
set_option linter.unusedVariables false
set_option linter.unusedSimpArgs false
set_option maxRecDepth 100000
set_option maxHeartbeats 12800000
namespace Go.Proofs.YtclgbdfkdbbinaaGreat
open Go.RowKit
structure Fx where
 wh:Int
 of:Int
 ty:Int
 df:Int
 ad:Int
structure Fx.Ok (w:World) (B:Nat) (s:Fx):Prop where
 wh:-9223372036854775808≤s.wh∧s.wh≤9223372036854775807
 of:0≤s.of∧s.of≤18446744073709551615
 ty:0≤s.ty∧s.ty≤4294967295
 df:-9223372036854775808≤s.df∧s.df≤9223372036854775807
 ad:-9223372036854775808≤s.ad∧s.ad≤9223372036854775807
def Fx.cells (s:Fx):Array Value:=#[.int .i64 s.wh,.int .u64 s.of,.int .u32 s.ty,.int .i64 s.df,.int .i64 s.ad]
def Fx.zero:Fx:=⟨0,0,0,0,0⟩
theorem Fx.Ok.below {w w':World} {B:Nat} {s:Fx} (h:s.Ok w B) (hb:Below B w w'):s.Ok w' B:=⟨h.wh,h.of,h.ty,h.df,h.ad⟩
theorem Fx.Ok.more {w:World} {B B':Nat} {s:Fx} (h:s.Ok w B) (hB:B≤B'):s.Ok w B':=⟨h.wh,h.of,h.ty,h.df,h.ad⟩
structure Fx.At (w:World) (b o:Nat) (s:Fx):Prop where
 c0:w.cell? ⟨b,o,none⟩=some (.int .i64 s.wh)
 c1:w.cell? ⟨b,o+1,none⟩=some (.int .u64 s.of)
 c2:w.cell? ⟨b,o+2,none⟩=some (.int .u32 s.ty)
 c3:w.cell? ⟨b,o+3,none⟩=some (.int .i64 s.df)
 c4:w.cell? ⟨b,o+4,none⟩=some (.int .i64 s.ad)
theorem Fx.At.below {w w':World} {B b o:Nat} {s:Fx} (h:Fx.At w b o s) (hb:Below B w w') (hB:b<B):Fx.At w' b o s:=
 ⟨(hb.cell hB).trans h.c0,(hb.cell hB).trans h.c1,(hb.cell hB).trans h.c2,(hb.cell hB).trans h.c3,(hb.cell hB).trans h.c4⟩
theorem Fx.getD_mem {L:List Fx} {k:Nat} (h:k<L.length):L.getD k Fx.zero∈L:=by
 rw [gZe,gZg h];exact List.getElem_mem h
theorem Fx.take_snoc {L:List Fx} {k:Nat} (h:k<L.length):L.take (k+1)=L.take k++[L.getD k Fx.zero]:=by
 rw [List.take_succ_eq_append_getElem h,gZe,gZg h];rfl
structure Fx.Sl (w:World) (B:Nat) (a:Option Addr) (len:Nat) (L:List Fx):Prop where
 hl:L.length=len
 hok:∀s∈L,s.Ok w B
 hc:0<len→∃b off,a=some ⟨b,off,none⟩∧b<B∧∀i,i<len→Fx.At w b (off+i*5) (L.getD i Fx.zero)
theorem Fx.Sl.below {w w':World} {B:Nat} {a:Option Addr} {len:Nat} {L:List Fx} (h:Fx.Sl w B a len L) (hb:Below B w w'):Fx.Sl w' B a len L:=
 ⟨h.hl,fun s hs=>(h.hok s hs).below hb,fun hl=>by
  obtain ⟨b,off,e,hB,hc⟩:=h.hc hl;exact ⟨b,off,e,hB,fun i hi=>(hc i hi).below hb hB⟩⟩
theorem Fx.Sl.more {w:World} {B B':Nat} {a:Option Addr} {len:Nat} {L:List Fx} (h:Fx.Sl w B a len L) (hB:B≤B'):Fx.Sl w B' a len L:=
 ⟨h.hl,fun s hs=>(h.hok s hs).more hB,fun hl=>by
  obtain ⟨b,off,e,hb,hc⟩:=h.hc hl;exact ⟨b,off,e,Nat.lt_of_lt_of_le hb hB,hc⟩⟩
theorem Fx.Sl.empty (w:World) (B:Nat) (a:Option Addr):Fx.Sl w B a 0 []:=⟨rfl,fun _ h=>(by cases h),fun h=>absurd h oZm⟩
theorem Fx.Sl.okAt {w:World} {B:Nat} {a:Option Addr} {len:Nat} {L:List Fx} (h:Fx.Sl w B a len L) {i:Nat} (hi:i<len):(L.getD i Fx.zero).Ok w B:=
 h.hok _ (Fx.getD_mem (by have:=h.hl;omega))
def Fx.flat (L:List Fx):List Value:=L.flatMap fun s=>[.int .i64 s.wh,.int .u64 s.of,.int .u32 s.ty,.int .i64 s.df,.int .i64 s.ad]
theorem Fx.flat_snoc (L:List Fx) (s:Fx):Fx.flat (L++[s])=Fx.flat L++[.int .i64 s.wh,.int .u64 s.of,.int .u32 s.ty,.int .i64 s.df,.int .i64 s.ad]:=by
 unfold Fx.flat;rw [List.flatMap_append];simp
theorem Fx.flat_len:∀L:List Fx,(Fx.flat L).length=L.length*5
 | []=>rfl
 | s :: L=>by
   have:=Fx.flat_len L;unfold Fx.flat at this⊢;rw [List.flatMap_cons,lZa,this];simp [Nat.add_mul];omega
theorem Fx.flat_at:∀(L:List Fx) (i:Nat),i<L.length→(Fx.flat L)[i*5]?=some (.int .i64 (L.getD i Fx.zero).wh)∧(Fx.flat L)[i*5+1]?=some (.int .u64 (L.getD i Fx.zero).of)∧(Fx.flat L)[i*5+2]?=some (.int .u32 (L.getD i Fx.zero).ty)∧(Fx.flat L)[i*5+3]?=some (.int .i64 (L.getD i Fx.zero).df)∧(Fx.flat L)[i*5+4]?=some (.int .i64 (L.getD i Fx.zero).ad)
 | [],i,h=>by simp at h
 | s :: L,0,_=>by simp [Fx.flat]
 | s :: L,i+1,h=>by
   have:=Fx.flat_at L i (by simpa using h);unfold Fx.flat at this⊢;rw [List.flatMap_cons];have e:∀j,([.int .i64 s.wh,.int .u64 s.of,.int .u32 s.ty,.int .i64 s.df,.int .i64 s.ad]++L.flatMap (fun s=>[.int .i64 s.wh,.int .u64 s.of,.int .u32 s.ty,.int .i64 s.df,.int .i64 s.ad]):List Value)[(i+1)*5+j]?=(L.flatMap (fun s=>[.int .i64 s.wh,.int .u64 s.of,.int .u32 s.ty,.int .i64 s.df,.int .i64 s.ad]):List Value)[i*5+j]?:=fun j=>by
    rw [List.getElem?_append_right (by simp;omega)]
    congr 1
    simp;omega
   have e0:=e 0;simp only [Nat.add_zero] at e0;rw [e0,e 1,e 2,e 3,e 4];simpa using this
theorem Fx.Sl.own {w:World} {base:Nat} {e:TypeId} {a:Option Addr} {len cap:Nat} {L:List Fx} (hok:∀s∈L,s.Ok w w.heap.size) (h:w.ownsRow base e 5 (.slice a len cap) len (Fx.flat L)):Fx.Sl w w.heap.size a len L:=by
 have hl:L.length=len:=by have:=h.1;rw [Fx.flat_len] at this;omega
 refine ⟨hl,hok,fun hp=>?_⟩;obtain ⟨g,rfl,hlt⟩:∃g,a=some ⟨g,0,none⟩∧g<w.heap.size:=by
  rcases h.2 with ⟨_,e0⟩ | ⟨g,c,cur,hv,_,hg,_⟩
  ·omega
  ·refine ⟨g,by injection hv,?_⟩;obtain ⟨hlt,_⟩:=Array.getElem?_eq_some_iff.1 hg;exact hlt
 refine ⟨g,0,rfl,hlt,fun i hi=>?_⟩;obtain ⟨f0,f1,f2,f3,f4⟩:=Fx.flat_at L i oZm;simp only [Nat.zero_add];exact ⟨(h.cellAt _ oZm).trans f0,(h.cellAt _ oZm).trans f1,(h.cellAt _ oZm).trans f2,(h.cellAt _ oZm).trans f3,(h.cellAt _ oZm).trans f4⟩
structure Sp where
 k:Int
 so:ByteArray
 nd:List ByteArray
 en:Int
 co:List Int
 da:List Int
 bs:Int
 tl:List Int
 tb:Int
 df:List Df
 fx:List Fx
structure Spv where
 k:Int
 so:ByteArray
 nd:Sh
 en:Int
 co:Sh
 da:Sh
 bs:Int
 tl:Sh
 tb:Int
 df:Sh
 fx:Sh
def Spv.cells (x:Spv):Array Value:=#[.int .i64 x.k,.string x.so,.slice x.nd.a x.nd.n x.nd.c,.int .u64 x.en,.slice x.co.a x.co.n x.co.c,.slice x.da.a x.da.n x.da.c,.int .u64 x.bs,.slice x.tl.a x.tl.n x.tl.c,.int .u64 x.tb,.slice x.df.a x.df.n x.df.c,.slice x.fx.a x.fx.n x.fx.c]
def Spv.val (x:Spv):Value:=.agg #[.int .i64 x.k,.string x.so,.slice x.nd.a x.nd.n x.nd.c,.int .u64 x.en,.slice x.co.a x.co.n x.co.c,.slice x.da.a x.da.n x.da.c,.int .u64 x.bs,.slice x.tl.a x.tl.n x.tl.c,.int .u64 x.tb,.slice x.df.a x.df.n x.df.c,.slice x.fx.a x.fx.n x.fx.c]
structure Spv.Is (w:World) (B:Nat) (x:Spv) (m:Sp):Prop where
 k:x.k=m.k
 so:x.so=m.so
 nd:du w B x.nd.a x.nd.n m.nd
 en:x.en=m.en
 co:Bys w B x.co.a x.co.n m.co
 da:Bys w B x.da.a x.da.n m.da
 bs:x.bs=m.bs
 tl:Bys w B x.tl.a x.tl.n m.tl
 tb:x.tb=m.tb
 df:Df.Sl w B x.df.a x.df.n m.df
 fx:Fx.Sl w B x.fx.a x.fx.n m.fx
 ond:x.nd.Ok
 oco:x.co.Ok
 oda:x.da.Ok
 otl:x.tl.Ok
 odf:x.df.Ok
 ofx:x.fx.Ok
 bk:-9223372036854775808≤m.k∧m.k≤9223372036854775807
 ben:0≤m.en∧m.en≤18446744073709551615
 bbs:0≤m.bs∧m.bs≤18446744073709551615
 btb:0≤m.tb∧m.tb≤18446744073709551615
theorem Spv.Is.below {w w':World} {B:Nat} {x:Spv} {m:Sp} (h:x.Is w B m) (hb:Below B w w'):x.Is w' B m:=
 ⟨h.k,h.so,h.nd.below hb,h.en,h.co.below hb,h.da.below hb,h.bs,h.tl.below hb,h.tb,h.df.below hb,h.fx.below hb,h.ond,h.oco,h.oda,h.otl,h.odf,h.ofx,h.bk,h.ben,h.bbs,h.btb⟩
theorem Spv.Is.more {w:World} {B B':Nat} {x:Spv} {m:Sp} (h:x.Is w B m) (hB:B≤B'):x.Is w B' m:=
 ⟨h.k,h.so,h.nd.more hB,h.en,h.co.more hB,h.da.more hB,h.bs,h.tl.more hB,h.tb,h.df.more hB,h.fx.more hB,h.ond,h.oco,h.oda,h.otl,h.odf,h.ofx,h.bk,h.ben,h.bbs,h.btb⟩
def dz (d:Df):Bool:=decide (d.wh<0∨3<d.wh)
def dx (n:Int) (f:Fx):Bool:=decide ((f.wh≠1∧f.wh≠2)∨n≤f.df)
def gt (m:Sp):Int:=
 if m.k≠2∧m.k≠3 then 1
 else if m.df.any dz then 1
 else if m.fx.any (dx m.df.length) then 1
 else if 1048576<m.bs∨1048576<m.tb∨65536<m.co.length+m.da.length+m.tl.length then 13
 else 0
theorem mF {α:Type} {p:α→Bool} {L:List α} {k:Nat} (d:α) (hk:k<L.length) (h:p (L.getD k d)=true):L.any p=true:=
 List.any_eq_true.2 ⟨_,by rw [gZe,gZg hk];exact List.getElem_mem hk,h⟩
theorem my {α:Type} {p:α→Bool} {L:List α} (d:α) (h:∀k,k<L.length→p (L.getD k d)=false):L.any p=false:=by
 rw [List.any_eq_false];intro x hx;obtain ⟨i,hi,rfl⟩:=List.getElem_of_mem hx;have:=h i hi;rw [gZe,gZg hi] at this;rw [show p L[i]=false from this];decide
theorem ia {P:Nat→Prop} {k:Nat} (h:∀j,j<k→P j) (hk:P k):∀j,j<k+1→P j:=by
 intro j hj;by_cases e:j=k
 ·subst e;exact hk
 ·exact h j oZm
structure Bi where
 v0:Int
 v1:Int
 v2:Int
 v3:Int
 v4:Int
 v5:Int
 v6:Int
 dy:Int
 fr:Int
 cp:Int
 dp:Int
 tp:Int
structure Bu where
 s:Spv
 tb:Sh
 pd:Sh
 pn:Sh
 i:Bi
def Bu.cells (x:Bu):Array Value:=#[.int .i64 x.s.k,.string x.s.so,.slice x.s.nd.a x.s.nd.n x.s.nd.c,.int .u64 x.s.en,.slice x.s.co.a x.s.co.n x.s.co.c,.slice x.s.da.a x.s.da.n x.s.da.c,.int .u64 x.s.bs,.slice x.s.tl.a x.s.tl.n x.s.tl.c,.int .u64 x.s.tb,.slice x.s.df.a x.s.df.n x.s.df.c,.slice x.s.fx.a x.s.fx.n x.s.fx.c,.slice x.tb.a x.tb.n x.tb.c,.slice x.pd.a x.pd.n x.pd.c,.slice x.pn.a x.pn.n x.pn.c,.int .u64 x.i.v0,.int .u64 x.i.v1,.int .u64 x.i.v2,.int .u64 x.i.v3,.int .u64 x.i.v4,.int .u64 x.i.v5,.int .u64 x.i.v6,.int .u64 x.i.dy,.int .u64 x.i.fr,.int .u64 x.i.cp,.int .u64 x.i.dp,.int .u64 x.i.tp]
def Bu.val (x:Bu):Value:=.agg #[.int .i64 x.s.k,.string x.s.so,.slice x.s.nd.a x.s.nd.n x.s.nd.c,.int .u64 x.s.en,.slice x.s.co.a x.s.co.n x.s.co.c,.slice x.s.da.a x.s.da.n x.s.da.c,.int .u64 x.s.bs,.slice x.s.tl.a x.s.tl.n x.s.tl.c,.int .u64 x.s.tb,.slice x.s.df.a x.s.df.n x.s.df.c,.slice x.s.fx.a x.s.fx.n x.s.fx.c,.slice x.tb.a x.tb.n x.tb.c,.slice x.pd.a x.pd.n x.pd.c,.slice x.pn.a x.pn.n x.pn.c,.int .u64 x.i.v0,.int .u64 x.i.v1,.int .u64 x.i.v2,.int .u64 x.i.v3,.int .u64 x.i.v4,.int .u64 x.i.v5,.int .u64 x.i.v6,.int .u64 x.i.dy,.int .u64 x.i.fr,.int .u64 x.i.cp,.int .u64 x.i.dp,.int .u64 x.i.tp]
structure Bi.Ok (i:Bi):Prop where
 v0:cw i.v0
 v1:cw i.v1
 v2:cw i.v2
 v3:cw i.v3
 v4:cw i.v4
 v5:cw i.v5
 v6:cw i.v6
 dy:cw i.dy
 fr:cw i.fr
 cp:cw i.cp
 dp:cw i.dp
 tp:cw i.tp
structure Bu.Ok (x:Bu):Prop where
 nd:x.s.nd.Ok
 co:x.s.co.Ok
 da:x.s.da.Ok
 tl:x.s.tl.Ok
 df:x.s.df.Ok
 fx:x.s.fx.Ok
 tb:x.tb.Ok
 pd:x.pd.Ok
 pn:x.pn.Ok
 en:cw x.s.en
 bs:cw x.s.bs
 tz:cw x.s.tb
 i:x.i.Ok
structure Bm where
 m:Sp
 tb:List Int
 pd:List Int
 pn:List Int
 i:Bi
structure Bu.Is (w:World) (B:Nat) (x:Bu) (b:Bm):Prop where
 s:x.s.Is w B b.m
 tb:Bys w B x.tb.a x.tb.n b.tb
 pd:Nus w B x.pd.a x.pd.n b.pd
 pn:Nus w B x.pn.a x.pn.n b.pn
 i:x.i=b.i
 ok:x.Ok
theorem Bu.Is.below {w w':World} {B:Nat} {x:Bu} {b:Bm} (h:x.Is w B b) (hb:Below B w w'):x.Is w' B b:=⟨h.s.below hb,h.tb.below hb,h.pd.below hb,h.pn.below hb,h.i,h.ok⟩
theorem Bu.Is.more {w:World} {B B':Nat} {x:Bu} {b:Bm} (h:x.Is w B b) (hB:B≤B'):x.Is w B' b:=⟨h.s.more hB,h.tb.more hB,h.pd.more hB,h.pn.more hB,h.i,h.ok⟩
theorem Sh.Ok.i {h:Sh} (k:h.Ok):(h.n:Int)≤9223372036854775807:=by have:=k.le;have:=k.max;omega
theorem eB:cw 0:=⟨by decide,by decide⟩
def dM (ty fl at' size bz:Int):Sg:=⟨ty,fl,at',at',size,IntKind.u64.wrap (size+bz),if ty=1 then 256 else 8⟩
def mP (dn tn:Nat) (i:Bi):Int:=if 0<tn then IntKind.u64.wrap (IntKind.u64.wrap (i.tp+tn)-i.dp) else dn
def lQ (cn:Nat) (i:Bi):List Sg:=[dM 1 4 0 i.fr 0]++(if 0<cn then [dM 1 5 i.cp cn 0] else [])
def lm (dn tn:Nat) (bz:Int) (i:Bi):List Sg:=if 0<mP dn tn i∨0<bz then [{ dM 1 6 i.dp (mP dn tn i) bz with ot:=if mP dn tn i=0 then 0 else i.dp }] else []
def ma (i:Bi):List Sg:=[dM 2 4 i.dy (IntKind.u64.wrap (i.v1-i.dy)) 0]
def mX (tn:Nat) (tz:Int) (i:Bi):List Sg:=if 0<tn then [dM 7 4 i.tp tn tz] else if 0<tz then [dM 7 4 0 0 tz] else []
def cH (x:Bu):List Sg:=lQ x.s.co.n x.i++lm x.s.da.n x.s.tl.n x.s.bs x.i++ma x.i++mX x.s.tl.n x.s.tb x.i
theorem pN (n:Int):cw (IntKind.u64.wrap n):=by rw [IntKind.wrap_u64];unfold cw;omega
theorem jA (x:Bu):2≤(cH x).length∧(cH x).length≤5:=by
 unfold cH lQ lm ma mX;repeat' split
 all_goals simp
def sU (x:Bu):Int:=if 0<x.s.tl.n then IntKind.u64.wrap (x.i.tp+x.s.tl.n) else if 0<x.s.da.n then IntKind.u64.wrap (x.i.dp+x.s.da.n) else if 0<x.s.co.n then IntKind.u64.wrap (x.i.cp+x.s.co.n) else x.i.fr
def jX (i:Bi) (wh of:Int):Int:=if wh=1 then IntKind.u64.wrap (i.cp+of) else if wh=2 then IntKind.u64.wrap (i.dp+of) else if wh=3 then of else 0
def jP (wh:Int):Int:=if wh=1 then 2 else if wh=2 then 1 else if wh=3 then 6 else 0
def nH (d:Df):Int:=(if d.wk then 32 else 16)+jP d.wh
def jQ (i:Bi) (d:Df) (p:Int):Sy:=⟨IntKind.u32.wrap p,nH d,0,(if d.wh=0 then 0 else 1),jX i d.wh d.of,0⟩
def fG (b:Bm) (k:Nat):List Sy:=(List.range k).map fun j=>jQ b.i (b.m.df.getD j Df.zero) (b.pd.getD j 0)
def fI (b:Bm):List Sy:=if b.m.df.length=0 then [] else Sy.zero :: fG b b.m.df.length
def kD (i:Bi) (f:Fx):Rl:=⟨jX i f.wh f.of,f.ty,(if 0≤f.df then IntKind.u32.wrap (1+IntKind.u32.wrap f.df) else 0),f.ad⟩
def dJ (b:Bm) (k:Nat):List Rl:=(List.range k).map fun j=>kD b.i (b.m.fx.getD j Fx.zero)
def upI (x n:Int):Int:=(x+n-1) / n*n
theorem ku (x n:Int) (w:World) (x0:0≤x) (x1:x≤1152921504606846976) (hn:n=8∨n=256) :
 Calls Tryz.prog 37 #[.int .u64 x,.int .u64 n] w fun r w'=>r=.returned (.int .u64 (upI x n))∧w=w':=by
 unfold upI;rcases hn with rfl | rfl;all_goals go_enter Tryz.func37,Tryz.ntmps37
 all_goals go_wp2
 all_goals go_ret
 all_goals exact ⟨rfl,rfl⟩
def kj (m n:Nat):Nat:=(n-m % n) % n
theorem jI (base:Nat) (v:Value) (m n:Nat) (zs:List Int) (w:World) (ho:w.ownsRow base 5 1 v m (zs.map (Value.int .u8))) (hbase:base≤w.heap.size) (hm:m≤1000000) (hn:n=8∨n=256) :
 Calls Tryz.prog 40 #[v,.int .i64 n] w fun r w'=>∃v',r=.returned v'∧w'.ownsRow base 5 1 v' (m+kj m n) ((zs++List.replicate (kj m n) 0).map (Value.int .u8))∧Below base w w':=by
 obtain ⟨i0,hi,hz0,hz1,hz2⟩:=info_parts aM;have HO:=hZz ho;have HI:=hZz hi;have HZ0:=hZz hz0;have HZ1:=hZz hz1;have HZ2:=hZz hz2;clear ho hi hz0 hz1 hz2;obtain ⟨p,hp⟩:∃p,kj m n=p:=⟨_,rfl⟩
 have hpe:p<n∧(m+p) % n=0∧∀k,k<p→(m+k) % n≠0:=by
  unfold kj at hp;rcases hn with rfl | rfl
  ·exact ⟨by omega,by omega,fun k hk=>by omega⟩
  ·exact ⟨by omega,by omega,fun k hk=>by omega⟩
 rw [hp];obtain ⟨hp1,hp2,hp3⟩:=hpe;have HP3:=hZz hp3;have HP2:=hZz hp2;clear hp hp3 hp2;have hn0:(n:Int)≠0:=by omega
 have hn256:n≤256:=by omega
 obtain ⟨av,cv,rfl⟩:=bF HO.out;go_enter Tryz.func40,Tryz.ntmps40
 go_wp2;go_loopw [0] (fun b wr=>∃k:Nat,k≤p∧wr.ownsRow base 5 1 b (m+k) ((zs++List.replicate k 0).map (Value.int .u8))∧Below base w wr∧(∃a c,b=.slice a (m+k) c)) (fun b _=>m+p-(match b with | .slice _ l _=>l | _=>0))
 case atStart=>exact ⟨0,Nat.zero_le _,by simpa using HO.out,Below.refl _ _,⟨_,_,rfl⟩⟩
 case round=>
  obtain ⟨k,hk,hown,hbel,⟨a,c,rfl⟩⟩:=hrel;have HOWN:=hZz hown;have hsz:=hbel.size;have hmi:((m:Int)+k) % n=(((m+k) % n:Nat):Int):=by rw [Int.natCast_emod,Int.natCast_add]
  clear hown;by_cases hlt:k<p
  ·have hmod:=HP3.out k hlt;have hmb:(((m:Int)+k) % n != 0)=true:=by rw [bne_iff_ne,hmi];exact fun e=>hmod (Int.natCast_eq_zero.1 e)
   have hrep:Hid (zs++List.replicate (k+1) 0=(zs++List.replicate k 0)++[0]):=hZz (by rw [List.replicate_succ',List.append_assoc]);clear hmod hmi;go_wp2_with (at_builtin;refine wpList_append_own _ rfl _ _ 22 rfl base 5 i0 (.int .u8 0) 1 1 Tryz.underlying22 HI.out HZ0.out HZ1.out HZ2.out rfl dZc _ (m+k) _ rfl (HOWN.out.alloc _) ⟨wr.heap.size,0,none⟩ 1 1 [.int .u8 0] rfl rfl ?c1 ?c2 ?c3 ?c4 ?c5 ?_);case c1=>exact cell_one_new _ _ _
   case c2=>intro u hu;obtain rfl:=List.mem_singleton.1 hu;rfl
   case c3=>unfold maxLen;omega
   case c4=>omega
   case c5=>simp;omega
   intro v2 w2 hown2 hg2 hnil2;have hb2:Below base w w2:=(hbel.alloc oZm _).grown hg2 (by simp;omega) (fun q e=>(HOWN.out.lt q e).1);have HO2:Hid (w2.ownsRow base 5 1 v2 (m+(k+1)) ((zs++List.replicate (k+1) 0).map (Value.int .u8))):=hZz (by
    rw [hrep.out];simpa only [List.map_append,List.map_replicate,List.map_cons,List.map_nil,List.append_assoc,Nat.add_assoc] using hown2)
   obtain ⟨a2,c2,rfl⟩:=bF hown2;clear hown2 hg2 hnil2 hbel;go_wp2;go_roundw
   case rel=>exact ⟨k+1,by omega,HO2.out,hb2,⟨_,_,rfl⟩⟩
   case measure=>(simp<;>omega)
  ·obtain rfl:k=p:=by omega
   have hmod:=HP2.out;have hmb:(((m:Int)+k) % n != 0)=false:=by rw [bne_eq_false_iff_eq,hmi,hmod];rfl
   clear hmod hmi;go_wp2;go_ret;exact ⟨_,rfl,HOWN.out,hbel⟩
def fy (L:List ByteArray):Bool:=L.all fun s=>(bs s).all fun c=>decide (c≠0)
theorem gf (L:List ByteArray):fy L=true↔mh L:=by
 unfold fy mh;rw [List.all_eq_true];constructor
 ·intro h i hi k hk;have h1:=h _ (List.getElem_mem hi);rw [List.all_eq_true] at h1;have e:nm L i=L[i]:=by unfold nm;rw [gZe,gZg hi];rfl
  rw [e] at hk⊢;have h2:=h1 _ (List.getElem_mem hk);rw [decide_eq_true_eq] at h2;rw [gZe,gZg hk];exact h2
 ·intro h s hs;obtain ⟨i,hi,rfl⟩:=List.getElem_of_mem hs;rw [List.all_eq_true];intro c hc;obtain ⟨k,hk,rfl⟩:=List.getElem_of_mem hc;have e:nm L i=L[i]:=by unfold nm;rw [gZe,gZg hi];rfl
  have h2:=h i hi k (by rw [e];exact hk);rw [e,gZe,gZg hk] at h2;rw [decide_eq_true_eq];exact h2
def aG (m:Sp):List ByteArray:=m.so :: (m.nd++m.df.map (·.nm))
theorem eu (m:Sp):(aG m).length=1+m.nd.length+m.df.length:=by simp [aG];omega
def aA (m:Sp):List Int:=tab (aG m) (aG m).length
def bl (m:Sp):List Int:=eO (aG m) (aG m).length
theorem ja (m:Sp):(bl m).length=1+m.nd.length+m.df.length:=by unfold bl;rw [fR,eu]
def dv (m:Sp):Bool:=decide (0<m.co.length)
def bM (m:Sp):Bool:=decide (0<m.da.length∨0<m.tl.length∨0<m.bs)
def bR (m:Sp):Bool:=decide (0<m.tl.length∨0<m.tb)
def one (b:Bool):Int:=if b then 1 else 0
def aF (m:Sp):Int:=2+one (dv m)+one (bM m)+one (bR m)
def cm (m:Sp):Int:=if 0<m.df.length then m.df.length+1 else 0
def dd (m:Sp):Int:=24*m.fx.length
def bK (m:Sp):List Int:=((bl m).drop 1).take m.nd.length
theorem lY (m:Sp):(bK m).length=m.nd.length:=by unfold bK;rw [List.length_take,List.length_drop,ja];omega
def v0B (m:Sp):List Int:=[(bl m).getD 0 0,0,(aA m).length,0,cm m,0,dd m]
def bp (m:Sp):Int:=64+56*aF m
def aW (m:Sp):Int:=(bf (bK m) (v0B m)).length
def cK (m:Sp):Int:=bp m+aW m
def dN (m:Sp):Int:=upI (cK m+(aA m).length) 8
def ez (m:Sp):Int:=dN m+24*cm m
def bI (m:Sp):Int:=ez m+dd m
def ar (m:Sp):Int:=upI (bI m) 256
def ak (m:Sp):Int:=upI (ar m+m.co.length) 256
def aD (m:Sp):Int:=upI (ak m+m.da.length) 8
def cz (m:Sp):Int:=if dv m then IntKind.u64.wrap (ar m+m.en) else 0
def vB (m:Sp):List Int:=[(bl m).getD 0 0,cK m,(aA m).length,dN m,cm m,ez m,dd m]
def dX (m:Sp):Int:=if 0<m.tl.length then aD m+m.tl.length-ak m else m.da.length
def eo (m:Sp):List Sg:=
 [⟨1,4,0,0,bI m,bI m,256⟩]
 ++(if dv m then [⟨1,5,ar m,ar m,m.co.length,m.co.length,256⟩] else [])
 ++(if bM m then [⟨1,6,(if dX m=0 then 0 else ak m),ak m,dX m,dX m+m.bs,256⟩] else [])
 ++[⟨2,4,bp m,bp m,aW m,aW m,8⟩]
 ++(if bR m then [⟨7,4,(if 0<m.tl.length then aD m else 0),(if 0<m.tl.length then aD m else 0),m.tl.length,m.tl.length+m.tb,8⟩] else [])
def cE (m:Sp) (d:Df) (p:Int):Sy:=
 ⟨p,(if d.wk then 32 else 16)+(if d.wh=0 then 0 else if d.wh=1 then 2 else if d.wh=2 then 1 else 6),0,(if d.wh=0 then 0 else 1),
  (if d.wh=0 then 0 else if d.wh=1 then IntKind.u64.wrap (d.of+ar m) else if d.wh=2 then IntKind.u64.wrap (d.of+ak m) else d.of),0⟩
def cW (m:Sp) (k:Nat):List Sy:=(List.range k).map fun i=>cE m (m.df.getD i Df.zero) ((bl m).getD (1+m.nd.length+i) 0)
def fB (m:Sp) (f:Fx):Rl:=
 ⟨(if f.wh=2 then IntKind.u64.wrap (f.of+ak m) else IntKind.u64.wrap (f.of+ar m)),f.ty,(if 0≤f.df then f.df+1 else 0),f.ad⟩
def ce (m:Sp) (k:Nat):List Rl:=(List.range k).map fun i=>fB m (m.fx.getD i Fx.zero)
def cF (zs:List Int) (n:Nat):List Int:=zs++List.replicate (kj zs.length n) 0
def eh (m:Sp):List Int:=enc m.k (cz m) 64 (aF m)++(eo m).flatMap bH++bf (bK m) (vB m)
def cN (m:Sp):List Int:=cF (eh m++aA m) 8
def dO (m:Sp):List Int:=cN m++((if 0<m.df.length then List.replicate 24 0 else [])++(cW m m.df.length).flatMap bq)
def dL (m:Sp):List Int:=dO m++(ce m m.fx.length).flatMap bP
def cr (m:Sp):List Int:=if dv m then cF (dL m) 256++m.co else dL m
def cM (m:Sp):List Int:=if 0<m.da.length then cF (cr m) 256++m.da else cr m
def au (m:Sp):List Int:=if 0<m.tl.length then cM m++(List.replicate ((aD m).toNat-(cM m).length) 0++m.tl) else cM m
def bt (m:Sp):Int×List Int:=
 if gt m≠0 then (gt m,[])
 else if fy (aG m)=false then (1,[])
 else if 65536<(aA m).length then (13,[])
 else if 65536<(au m).length then (13,[])
 else (0,au m)
theorem oK (wh:Int) (w:World):Calls Tryz.prog 156 #[.int .i64 wh] w fun r w'=>r=.returned (.int .i64 (jP wh))∧w=w':=by
 unfold jP;by_cases h1:wh=1
 ·subst h1;go_enter Tryz.func156,Tryz.ntmps156
  go_wp2;go_ret;exact ⟨rfl,rfl⟩
 ·have h1b:(wh==1)=false:=by simpa using h1
  by_cases h2:wh=2
  ·subst h2;go_enter Tryz.func156,Tryz.ntmps156
   go_wp2;go_ret;exact ⟨rfl,rfl⟩
  ·have h2b:(wh==2)=false:=by simpa using h2
   by_cases h3:wh=3
   ·subst h3;go_enter Tryz.func156,Tryz.ntmps156
    go_wp2;go_ret;exact ⟨rfl,rfl⟩
   ·have h3b:(wh==3)=false:=by simpa using h3
    rw [if_neg h1,if_neg h2,if_neg h3];clear h1 h2 h3;go_enter Tryz.func156,Tryz.ntmps156
    go_wp2;go_ret;exact ⟨rfl,rfl⟩
theorem lU (x:Bu) (wh of:Int) (w:World) (hx:x.Ok) (o0:0≤of) (o1:of≤18446744073709551615) :
 Calls Tryz.prog 127 #[x.val,.int .i64 wh,.int .u64 of] w fun r w'=>r=.returned (.int .u64 (jX x.i wh of))∧w'=w.alloc (.cells x.cells 84):=by
 obtain ⟨⟨k,so,⟨nda,ndn,ndc⟩,en,⟨coa,con,coc⟩,⟨daa,dan,dac⟩,bz,⟨tla,tln,tlc⟩,tz,⟨dfa,dfn,dfc⟩,⟨fxa,fxn,fxc⟩⟩,⟨tba,tbn,tbc⟩,⟨pda,pdn,pdc⟩,⟨pna,pnn,pnc⟩,⟨v0,v1,v2,v3,v4,v5,v6,dy,fr,cp,dp,tp⟩⟩:=x;clear hx;unfold Bu.val Bu.cells jX;simp only
 by_cases h1:wh=1
 ·subst h1;go_enter Tryz.func127,Tryz.ntmps127
  go_wp2;go_ret;exact ⟨rfl,rfl⟩
 ·have h1b:(wh==1)=false:=by simpa using h1
  by_cases h2:wh=2
  ·subst h2;go_enter Tryz.func127,Tryz.ntmps127
   go_wp2;go_ret;exact ⟨rfl,rfl⟩
  ·have h2b:(wh==2)=false:=by simpa using h2
   by_cases h3:wh=3
   ·subst h3;go_enter Tryz.func127,Tryz.ntmps127
    go_wp2;go_ret;exact ⟨rfl,rfl⟩
   ·have h3b:(wh==3)=false:=by simpa using h3
    rw [if_neg h1,if_neg h2,if_neg h3];clear h1 h2 h3;go_enter Tryz.func127,Tryz.ntmps127
    go_wp2;go_ret;exact ⟨rfl,rfl⟩
theorem qZ (d:Df) (w:World) :
 Calls Tryz.prog 126 #[d.val] w fun r w'=>r=.returned (.int .u8 (nH d))∧w'=w.alloc (.cells d.cells 61):=by
 obtain ⟨nm,wh,of,wk⟩:=d;have HK:=hZz (fun w1=>oK wh w1);have hk:0≤jP wh∧jP wh≤6:=by unfold jP;repeat' split<;>omega
 unfold Df.val Df.cells nH;simp only
 generalize jP wh=q at HK hk;cases wk with
 | true=>
   have HW:Hid (IntKind.u8.wrap (32+q)=32+q):=hZz (by rw [IntKind.wrap_u8];omega);rw [if_pos rfl];go_enter Tryz.func126,Tryz.ntmps126
   go_wp2_with fail;refine (HK.out _).mono ?_;rintro r w2 ⟨rfl,rfl⟩;go_wp2;go_ret;exact ⟨by first | rfl | rw [HW.out],rfl⟩
 | false=>
   have HW:Hid (IntKind.u8.wrap (16+q)=16+q):=hZz (by rw [IntKind.wrap_u8];omega);rw [if_neg (by decide)];go_enter Tryz.func126,Tryz.ntmps126
   go_wp2_with fail;refine (HK.out _).mono ?_;rintro r w2 ⟨rfl,rfl⟩;go_wp2;go_ret;exact ⟨by first | rfl | rw [HW.out],rfl⟩
theorem vI:kE 8∧kE 256:=⟨⟨3,by decide,by decide⟩,⟨8,by decide,by decide⟩⟩
theorem kr (x n:Int) (w:World) (x0:0≤x) (x1:x≤1152921504606846976) (hn:n=8∨n=256) :
 Calls Tryz.prog 69 #[.int .u64 x,.int .u64 n] w fun r w'=>r=.returned (.int .u64 (upI x n))∧w=w':=by
 have HU:Hid (∀w1,Calls Tryz.prog 124 #[.int .u64 x,.int .u64 n] w1 fun r w'=>r=.returned (.tuple #[.int .u64 (upI x n),.int .i64 0])∧w1=w'):=hZz (fun w1=>by
  have hp:kE n:=by rcases hn with rfl | rfl;exact vI.1;exact vI.2
  by_cases h:x / n*n=x
  ·have e:upI x n=x:=by unfold upI;rcases hn with rfl | rfl<;>omega
   rw [e];exact qs x n w1 x0 oZm hp h
  ·have e:upI x n=x / n*n+n:=by unfold upI;rcases hn with rfl | rfl<;>omega
   rw [e];exact qd x n w1 x0 oZm hp h (by rcases hn with rfl | rfl<;>omega))
 clear hn;generalize upI x n=q at HU;go_enter Tryz.func69,Tryz.ntmps69
 go_wp2_with fail;refine (HU.out _).mono ?_;rintro r w2 ⟨rfl,rfl⟩;go_wp2;go_ret;exact ⟨rfl,rfl⟩
theorem nu (x:Bu) (w:World) (hx:x.Ok) :
 Calls Tryz.prog 32 #[x.val] w fun r w'=>r=.returned (.int .u64 (sU x))∧Below w.heap.size w w':=by
 have hc:=hx.co.i;have hd:=hx.da.i;have ht:=hx.tl.i;obtain ⟨⟨k,so,⟨nda,ndn,ndc⟩,en,⟨coa,con,coc⟩,⟨daa,dan,dac⟩,bz,⟨tla,tln,tlc⟩,tz,⟨dfa,dfn,dfc⟩,⟨fxa,fxn,fxc⟩⟩,⟨tba,tbn,tbc⟩,⟨pda,pdn,pdc⟩,⟨pna,pnn,pnc⟩,⟨v0,v1,v2,v3,v4,v5,v6,dy,fr,cp,dp,tp⟩⟩:=x;have HB:Hid (Below w.heap.size w (w.alloc (.cells #[.int .i64 k,.string so,.slice nda ndn ndc,.int .u64 en,.slice coa con coc,.slice daa dan dac,.int .u64 bz,.slice tla tln tlc,.int .u64 tz,.slice dfa dfn dfc,.slice fxa fxn fxc,.slice tba tbn tbc,.slice pda pdn pdc,.slice pna pnn pnc,.int .u64 v0,.int .u64 v1,.int .u64 v2,.int .u64 v3,.int .u64 v4,.int .u64 v5,.int .u64 v6,.int .u64 dy,.int .u64 fr,.int .u64 cp,.int .u64 dp,.int .u64 tp] 84))):=hZz ((Below.refl _ _).alloc (lZr _) _);clear hx;unfold Bu.val sU;simp only at hc hd ht⊢;by_cases h1:0<tln
 ·rw [if_pos h1];have h1i:(0:Int)<tln:=by omega
  clear h1;go_enter Tryz.func32,Tryz.ntmps32
  go_wp2;go_ret;exact ⟨rfl,HB.out⟩
 ·rw [if_neg h1];have h1i:¬(0:Int)<tln:=by omega
  clear h1;by_cases h2:0<dan
  ·rw [if_pos h2];have h2i:(0:Int)<dan:=by omega
   clear h2;go_enter Tryz.func32,Tryz.ntmps32
   go_wp2;go_ret;exact ⟨rfl,HB.out⟩
  ·rw [if_neg h2];have h2i:¬(0:Int)<dan:=by omega
   clear h2;by_cases h3:0<con
   ·rw [if_pos h3];have h3i:(0:Int)<con:=by omega
    clear h3;go_enter Tryz.func32,Tryz.ntmps32
    go_wp2;go_ret;exact ⟨rfl,HB.out⟩
   ·rw [if_neg h3];have h3i:¬(0:Int)<con:=by omega
    clear h3;go_enter Tryz.func32,Tryz.ntmps32
    go_wp2;go_ret;exact ⟨rfl,HB.out⟩
theorem fk (ty fl at' size bz:Int) (w:World) (s0:cw size) (b0:cw bz) :
 Calls Tryz.prog 122 #[.int .u32 ty,.int .u32 fl,.int .u64 at',.int .u64 size,.int .u64 bz] w fun r w'=>r=.returned (dM ty fl at' size bz).val∧Below w.heap.size w w':=by
 unfold dM Sg.val;obtain ⟨me,hme⟩:∃me,IntKind.u64.wrap (size+bz)=me:=⟨_,rfl⟩
 simp only
 rw [hme];by_cases h1:ty=1
 ·subst h1;rw [if_pos rfl];have HB:Hid (∀o1 o2,Below w.heap.size w ((w.alloc o1).alloc o2)):=hZz (fun o1 o2=>((Below.refl _ _).alloc (lZr _) o1).alloc (by simp) o2);obtain ⟨z0,z1,z2,z3,z4,z5,z6⟩:=Blk.c7 ((Blk.new w #[.int .u32 1,.int .u32 fl,.int .u64 at',.int .u64 at',.int .u64 size,.int .u64 me,.int .u64 256] 65).alloc (.cells #[.int .u32 1,.int .u32 fl,.int .u64 at',.int .u64 at',.int .u64 size,.int .u64 me,.int .u64 256] 65));go_enter Tryz.func122,Tryz.ntmps122
  go_wp2;refine bodyPost_ret (v:=.agg #[.int .u32 1,.int .u32 fl,.int .u64 at',.int .u64 at',.int .u64 size,.int .u64 me,.int .u64 256]) (by simp [results,Tryz.results122,go_sem,z0,z1,z2,z3,z4,z5,z6]) rfl ?_;exact ⟨rfl,HB.out _ _⟩
 ·have h1b:(ty==1)=false:=by simpa using h1
  rw [if_neg h1];clear h1;have HB:Hid (∀o1 o2,Below w.heap.size w ((w.alloc o1).alloc o2)):=hZz (fun o1 o2=>((Below.refl _ _).alloc (lZr _) o1).alloc (by simp) o2);obtain ⟨z0,z1,z2,z3,z4,z5,z6⟩:=Blk.c7 ((Blk.new w #[.int .u32 ty,.int .u32 fl,.int .u64 at',.int .u64 at',.int .u64 size,.int .u64 me,.int .u64 8] 65).alloc (.cells #[.int .u32 ty,.int .u32 fl,.int .u64 at',.int .u64 at',.int .u64 size,.int .u64 me,.int .u64 8] 65));go_enter Tryz.func122,Tryz.ntmps122
  go_wp2;refine bodyPost_ret (v:=.agg #[.int .u32 ty,.int .u32 fl,.int .u64 at',.int .u64 at',.int .u64 size,.int .u64 me,.int .u64 8]) (by simp [results,Tryz.results122,go_sem,z0,z1,z2,z3,z4,z5,z6]) rfl ?_;exact ⟨rfl,HB.out _ _⟩
theorem qX (F ps:List Int) (p:Nat):splice (F.map (Value.int .u8)) p (ps.map (Value.int .u8))=(splice F p ps).map (Value.int .u8):=by
 unfold splice;simp [List.map_take,List.map_drop]
theorem sE:(Tryz.prog.info? 5).map (·.size)=some 1:=by kernel_rfl
theorem vq (g n p pn pc:Nat) (pa:Option Addr) (F ps:List Int) (w:World) (hg:Blk w g (F.map (Value.int .u8)).toArray 5) (hn:F.length=n) (hp:Bys w w.heap.size pa pn ps) (hc:pn≤pc) (hcm:(pc:Int)≤9223372036854775807) (hfit:pn=0∨p+pn≤n) (hl:n≤1000000) (hpl:p≤1152921504606846976) :
 Calls Tryz.prog 70 #[.slice (some ⟨g,0,none⟩) n n,.int .u64 p,.slice pa pn pc] w fun r w'=>(r=.returned (.tuple #[]))∧w'=w.setRow g ((splice F p ps).map (Value.int .u8)).toArray:=by
 have HG:Hid (w.heap[g]?=some (.cells (F.map (Value.int .u8)).toArray 5 (0,0))):=hZz hg;have HP:=hZz hp;have HN:=hZz hn;have hni:(n:Int)≤1000000:=by omega
 clear hg hp hn;by_cases h0:pn=0
 ·have hps:ps=[]:=List.eq_nil_of_length_eq_zero (by rw [HP.out.1];exact h0);subst hps;have hF:Hid (splice F p []=F):=hZz (by unfold splice;simp);have h0i:(pn:Int)=0:=by omega
  clear hfit;subst h0;go_enter Tryz.func70,Tryz.ntmps70
  go_wp2;first | go_ret | go_ret2 | go_end0
  exact ⟨rfl,by rw [hF.out];exact (setRow_self w g _ _ _ HG.out).symm⟩
 ·have hfit2:p+pn≤n:=by omega
  have h0i:(0:Int)<pn:=by omega
  have hpp:0<pn:=by omega
  have hpn:(p:Int)≤n:=by omega
  have hpn2:p<n:=by omega
  have hpn3:¬p=n:=by omega
  have HPA:Hid (∃b off,pa=some ⟨b,off,none⟩∧b<w.heap.size∧∀i,i<pn→w.cell? ⟨b,off+i,none⟩=some (.int .u8 (ps.getD i 0))):=hZz (HP.out.2.2 oZm);obtain ⟨b,off,rfl,hbB,hbc⟩:=HPA.out;have HBC:=hZz hbc;clear hfit h0 hbc;go_enter Tryz.func70,Tryz.ntmps70
  have HSRC:=hZz (Bys.src (w:=w) (b:=b) (off:=off) HP.out.1 HBC.out);have HPL:=hZz HP.out.1;have HUB:=hZz (jy ps);go_wp2_with (with_reducible refine wpList_copy_own rfl _ _ 22 22 rfl 5 Tryz.underlying22 sE g p _ _ ⟨b,off,none⟩ _ _ rfl rfl (F.map (Value.int .u8)).toArray 5 HG.out (ps.map (Value.int .u8)) ?d1 HSRC.out ?d3 ?d4 ?_);case d1=>rw [List.length_map,HPL.out];exact (Nat.min_eq_left oZm).symm
  case d3=>rw [List.length_map,List.size_toArray,List.length_map,HPL.out,HN.out];exact hfit2
  case d4=>exact HUB.out
  first | go_ret | go_ret2 | go_end0 | (go_wp2;first | go_ret | go_ret2 | go_end0)
  exact ⟨rfl,by rw [←qX];unfold splice;rw [List.length_map]⟩
end Go.Proofs.YtclgbdfkdbbinaaGreat
