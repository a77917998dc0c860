/-
  What is proved here: words and contracts, a part of those that the statement rests on (B4).
  Conditions: none but that the arguments are values of their types.
-/
import Derived.Test.YtclgbdfkdbbinaaGreatB0
import Derived.Test.YtclgbdfkdbbinaaGreatB1
import Derived.Test.YtclgbdfkdbbinaaGreatB2
import Derived.Test.YtclgbdfkdbbinaaGreatB3
import Derived.Laws.Bits64
import Derived.Laws.BitsAllLaws
import Derived.RegionTactic
set_option linter.unusedVariables false
set_option linter.unusedSimpArgs false
set_option maxRecDepth 100000
set_option maxHeartbeats 12800000
namespace Go.Proofs.YtclgbdfkdbbinaaGreat
open Go.RowKit
structure Rl where
 of:Int
 ty:Int
 sy:Int
 ad:Int
structure Rl.Ok (s:Rl):Prop where
 of:0≤s.of∧s.of≤18446744073709551615
 ty:0≤s.ty∧s.ty≤4294967295
 sy:0≤s.sy∧s.sy≤4294967295
 ad:-9223372036854775808≤s.ad∧s.ad≤9223372036854775807
def Rl.val (s:Rl):Value:=.agg #[.int .u64 s.of,.int .u32 s.ty,.int .u32 s.sy,.int .i64 s.ad]
def Rl.zero:Rl:=⟨0,0,0,0⟩
structure Rl.At (w:World) (b o:Nat) (s:Rl):Prop where
 c0:w.cell? ⟨b,o,none⟩=some (.int .u64 s.of)
 c1:w.cell? ⟨b,o+1,none⟩=some (.int .u32 s.ty)
 c2:w.cell? ⟨b,o+2,none⟩=some (.int .u32 s.sy)
 c3:w.cell? ⟨b,o+3,none⟩=some (.int .i64 s.ad)
theorem Rl.At.below {w w':World} {B b o:Nat} {s:Rl} (h:Rl.At w b o s) (hb:Below B w w') (hB:b<B):Rl.At w' b o s:=
 ⟨(hb.cell hB).trans h.c0,(hb.cell hB).trans h.c1,(hb.cell hB).trans h.c2,(hb.cell hB).trans h.c3⟩
theorem Rl.getD_mem {L:List Rl} {k:Nat} (h:k<L.length):L.getD k Rl.zero∈L:=by
 rw [gZe,gZg h];exact List.getElem_mem h
structure Rl.Sl (w:World) (B:Nat) (a:Option Addr) (len:Nat) (L:List Rl):Prop where
 hl:L.length=len
 hok:∀s∈L,s.Ok
 hc:0<len→∃b off,a=some ⟨b,off,none⟩∧b<B∧∀i,i<len→Rl.At w b (off+i*4) (L.getD i Rl.zero)
theorem Rl.Sl.empty (w:World) (B:Nat) (a:Option Addr):Rl.Sl w B a 0 []:=⟨rfl,fun _ h=>(by cases h),fun h=>absurd h oZm⟩
theorem Rl.Sl.okAt {w:World} {B:Nat} {a:Option Addr} {len:Nat} {L:List Rl} (h:Rl.Sl w B a len L) {i:Nat} (hi:i<len):(L.getD i Rl.zero).Ok:=
 h.hok _ (Rl.getD_mem (by have:=h.hl;omega))
theorem Rl.cs {w:World} {g:Nat} {v0 v1 v2 v3:Value} {t:TypeId} (h:Blk w g #[v0,v1,v2,v3] t) :
 w.cell? ⟨g,0,none⟩=some v0∧w.cell? ⟨g,1,none⟩=some v1∧w.cell? ⟨g,2,none⟩=some v2∧w.cell? ⟨g,3,none⟩=some v3:=
 ⟨h.cell 0,h.cell 1,h.cell 2,h.cell 3⟩
def Rl.flat (L:List Rl):List Value:=L.flatMap fun s=>[.int .u64 s.of,.int .u32 s.ty,.int .u32 s.sy,.int .i64 s.ad]
theorem Rl.flat_snoc (L:List Rl) (s:Rl):Rl.flat (L++[s])=Rl.flat L++[.int .u64 s.of,.int .u32 s.ty,.int .u32 s.sy,.int .i64 s.ad]:=by
 unfold Rl.flat;rw [List.flatMap_append];simp
theorem Rl.flat_len:∀L:List Rl,(Rl.flat L).length=L.length*4
 | []=>rfl
 | s :: L=>by
   have:=Rl.flat_len L;unfold Rl.flat at this⊢;rw [List.flatMap_cons,lZa,this];simp [Nat.add_mul];omega
theorem Rl.flat_at:∀(L:List Rl) (i:Nat),i<L.length→(Rl.flat L)[i*4]?=some (.int .u64 (L.getD i Rl.zero).of)∧(Rl.flat L)[i*4+1]?=some (.int .u32 (L.getD i Rl.zero).ty)∧(Rl.flat L)[i*4+2]?=some (.int .u32 (L.getD i Rl.zero).sy)∧(Rl.flat L)[i*4+3]?=some (.int .i64 (L.getD i Rl.zero).ad)
 | [],i,h=>by simp at h
 | s :: L,0,_=>by simp [Rl.flat]
 | s :: L,i+1,h=>by
   have:=Rl.flat_at L i (by simpa using h);unfold Rl.flat at this⊢;rw [List.flatMap_cons];have e:∀j,([.int .u64 s.of,.int .u32 s.ty,.int .u32 s.sy,.int .i64 s.ad]++L.flatMap (fun s=>[.int .u64 s.of,.int .u32 s.ty,.int .u32 s.sy,.int .i64 s.ad]):List Value)[(i+1)*4+j]?=(L.flatMap (fun s=>[.int .u64 s.of,.int .u32 s.ty,.int .u32 s.sy,.int .i64 s.ad]):List Value)[i*4+j]?:=fun j=>by
    rw [List.getElem?_append_right (by simp;omega)]
    congr 1
    simp;omega
   have e0:=e 0;simp only [Nat.add_zero] at e0;rw [e0,e 1,e 2,e 3];simpa using this
theorem Rl.Sl.own {w:World} {base:Nat} {e:TypeId} {a:Option Addr} {len cap:Nat} {L:List Rl} (hok:∀s∈L,s.Ok) (h:w.ownsRow base e 4 (.slice a len cap) len (Rl.flat L)):Rl.Sl w w.heap.size a len L:=by
 have hl:L.length=len:=by have:=h.1;rw [Rl.flat_len] at this;omega
 refine ⟨hl,hok,fun hp=>?_⟩;obtain ⟨g,rfl,hlt⟩:∃g,a=some ⟨g,0,none⟩∧g<w.heap.size:=by
  rcases h.2 with ⟨_,e0⟩ | ⟨g,c,cur,hv,_,hg,_⟩
  ·omega
  ·refine ⟨g,by injection hv,?_⟩;obtain ⟨hlt,_⟩:=Array.getElem?_eq_some_iff.1 hg;exact hlt
 refine ⟨g,0,rfl,hlt,fun i hi=>?_⟩;obtain ⟨f0,f1,f2,f3⟩:=Rl.flat_at L i oZm;simp only [Nat.zero_add];exact ⟨(h.cellAt _ oZm).trans f0,(h.cellAt _ oZm).trans f1,(h.cellAt _ oZm).trans f2,(h.cellAt _ oZm).trans f3⟩
theorem Rl.own_below {w w':World} {base n:Nat} {e:TypeId} {v:Value} {xs:List Value} (h:w.ownsRow base e 4 v n xs) (hb:Below w.heap.size w w'):w'.ownsRow base e 4 v n xs:=
 h.kept (row:=none) ⟨hb.os,hb.tape,hb.output,hb.size,fun k hk _=>hb.block k hk⟩ (by cases v.ownBlock<;>simp)
def gB (s:Rl):Int:=s.ty+s.sy*4294967296
def bP (s:Rl):List Int:=ai s.of 8++(ai (gB s) 8++ai (IntKind.u64.wrap s.ad) 8)
theorem dW (s:Rl):(bP s).length=24:=by simp only [bP,lZa,ay]
theorem gw (s:Rl):∀n∈bP s,0≤n∧n≤255:=by
 intro n hn;simp only [bP,List.mem_append] at hn;rcases hn with h | h | h;all_goals exact bE _ _ n h
def qy (zs:List Int) (k:Nat):Rl:=⟨num (am zs (24*k) 8),num (am zs (24*k+8) 8) % 4294967296,num (am zs (24*k+8) 8) / 4294967296,IntKind.i64.wrap (num (am zs (24*k+16) 8))⟩
theorem tZ {zs:List Int} (hb:∀n∈zs,0≤n∧n≤255) {k:Nat} (h:24*k+24≤zs.length):(qy zs k).Ok:=by
 have h0:=aB (p:=24*k) (k:=8) hb oZm;have h3:=aB (p:=24*k+8) (k:=8) hb oZm;have h4:=aB (p:=24*k+16) (k:=8) hb oZm;constructor<;>simp only [qy]
 ·omega
 ·omega
 ·omega
 ·rw [IntKind.wrap_i64];omega
def cy (zs:List Int) (n:Nat):List Rl:=(List.range n).map (qy zs)
theorem nD (zs:List Int) (n:Nat):(cy zs n).length=n:=by simp [cy]
theorem rM (zs:List Int) (k:Nat):cy zs (k+1)=cy zs k++[qy zs k]:=by simp [cy,List.range_succ]
theorem py {zs:List Int} {n:Nat} (hb:∀x∈zs,0≤x∧x≤255) (hl:24*n≤zs.length):∀s∈cy zs n,s.Ok:=by
 intro s hs;simp only [cy,List.mem_map,List.mem_range] at hs;obtain ⟨k,hk,rfl⟩:=hs;exact tZ hb oZm
def fq (zs:List Int):Int×List Rl:=if zs.length % 24=0 then (0,cy zs (zs.length / 24)) else (10,[])
theorem qc {zs:List Int} (hb:∀x∈zs,0≤x∧x≤255):∀s∈(fq zs).2,s.Ok:=by
 unfold fq;split
 ·exact py hb oZm
 ·intro s hs;cases hs
def iC (t:Int):Bool:=decide (t=0∨t=1∨t=6∨t=7∨t=8∨t=16∨t=17∨t=18)
def ej (s:Rl) (n:Int):Int:=
 if iC s.ty=false then 33
 else if 0<s.sy∧(n<0∨n≤s.sy) then 10
 else if ((s.ty=0∨s.ty=8)∧s.sy≠0)∨(¬(s.ty=0∨s.ty=8)∧s.sy=0) then 11
 else 0
def dc:List Rl→Int→Int
 | [],_=>0
 | s :: L,n=>if ej s n=0 then dc L n else ej s n
theorem jW {n:Int}:∀{L:List Rl},(∀k,k<L.length→ej (L.getD k Rl.zero) n=0)→dc L n=0
 | [],_=>rfl
 | s :: L,h=>by
   have h0:ej s n=0:=h 0 (by simp);unfold dc;rw [if_pos h0];exact jW fun k hk=>h (k+1) (by simpa using hk)
theorem lB {n:Int}:∀{L:List Rl} {k:Nat},k<L.length→(∀j,j<k→ej (L.getD j Rl.zero) n=0)→ej (L.getD k Rl.zero) n≠0→dc L n=ej (L.getD k Rl.zero) n
 | [],k,hk,_,_=>by simp at hk
 | s :: L,0,_,_,h=>by
   have h':ej s n≠0:=h;unfold dc;rw [if_neg h'];rfl
 | s :: L,k+1,hk,h0,h=>by
   have h1:ej s n=0:=h0 0 oZm;unfold dc;rw [if_pos h1];exact lB (L:=L) (k:=k) (by simpa using hk) (fun j hj=>h0 (j+1) oZm) h
theorem ry {L:List Rl} {n:Int} {k:Nat} (h:∀j,j<k→ej (L.getD j Rl.zero) n=0) (hk:ej (L.getD k Rl.zero) n=0):∀j,j<k+1→ej (L.getD j Rl.zero) n=0:=by
 intro j hj;by_cases e:j=k
 ·subst e;exact hk
 ·exact h j oZm
def hd0:List Int:=[127,69,76,70,2,1,1,0,0,0,0,0,0,0,0,0]
def enc (k e s c:Int):List Int:=
 hd0++(ai k 2++(ai 19823 2++(ai 1 4++(ai e 8++(ai s 8++(ai 0 8++(ai 0 4++(ai 64 2++(ai 56 2++(ai c 2++(ai 0 2++(ai 0 2++ai 0 2))))))))))))
theorem dZ (k e s c:Int):(enc k e s c).length=64:=by
 simp only [enc,lZa,ay];rfl
theorem mS (k e s c:Int):∀n∈enc k e s c,0≤n∧n≤255:=by
 intro n hn;simp only [enc,List.mem_append] at hn;rcases hn with h | h | h | h | h | h | h | h | h | h | h | h | h | h
 ·revert n;decide
 all_goals exact bE _ _ n h
def dY (k c:Int):Bool:=decide (2≤k) && (decide (k≤4) && (decide (0≤c) && decide (c≤64)))
theorem dF {k c:Int}:dY k c=true↔2≤k∧k≤4∧0≤c∧c≤64:=by simp [dY]
def kOf (zs:List Int):Int:=num (am zs 16 2)
def eOf (zs:List Int):Int:=num (am zs 24 8)
def sOf (zs:List Int):Int:=num (am zs 32 8)
def cOf (zs:List Int):Int:=num (am zs 56 2)
def dD (zs:List Int):Bool:=dY (kOf zs) (cOf zs) && decide (enc (kOf zs) (eOf zs) (sOf zs) (cOf zs)=am zs 0 64)
theorem tE {zs:List Int} (hb:∀n∈zs,0≤n∧n≤255) (h:64≤zs.length):0≤kOf zs∧kOf zs≤65535:=by
 have:=aB (p:=16) (k:=2) hb oZm;unfold kOf;omega
theorem tu {zs:List Int} (hb:∀n∈zs,0≤n∧n≤255) (h:64≤zs.length):0≤cOf zs∧cOf zs≤65535:=by
 have:=aB (p:=56) (k:=2) hb oZm;unfold cOf;omega
theorem xo {zs:List Int} (hb:∀n∈zs,0≤n∧n≤255) (h:64≤zs.length):0≤eOf zs∧eOf zs≤18446744073709551615:=by
 have:=aB (p:=24) (k:=8) hb oZm;unfold eOf;omega
theorem pX {zs:List Int} (hb:∀n∈zs,0≤n∧n≤255) (h:64≤zs.length):0≤sOf zs∧sOf zs≤18446744073709551615:=by
 have:=aB (p:=32) (k:=8) hb oZm;unfold sOf;omega
def cU (k e s c:Int):Value:=.agg #[.int .i64 k,.int .u64 e,.int .u64 s,.int .i64 c]
def jh (zs:List Int):Value:=
 if zs.length<64 then .tuple #[cU 0 0 0 0,.int .i64 10]
 else if dD zs then .tuple #[cU (kOf zs) (eOf zs) (sOf zs) (cOf zs),.int .i64 0]
 else .tuple #[cU 0 0 0 0,.int .i64 11]
def fz:List Int→Option Nat
 | []=>none
 | c :: r=>if c=0 then some 0 else (fz r).map (·+1)
theorem qz:∀{zs:List Int} {k:Nat},fz zs=some k→cV zs k
 | [],k,h=>by simp [fz] at h
 | c :: r,k,h=>by
   unfold fz at h;by_cases e:c=0
   ·rw [if_pos e] at h;injection h with h;subst h;exact ⟨by simp,by rw [e];rfl,fun i hi=>absurd hi oZm⟩
   ·rw [if_neg e] at h;cases hr:fz r with
    | none=>rw [hr] at h;simp at h
    | some j=>
      rw [hr] at h;simp only [Option.map_some,Option.some.injEq] at h;subst h;obtain ⟨h1,h2,h3⟩:=qz hr;refine ⟨by simp;omega,h2,fun i hi=>?_⟩;cases i with
      | zero=>exact e
      | succ i=>exact h3 i oZm
theorem qo:∀{zs:List Int},fz zs=none→eq zs
 | [],_=>fun i hi=>by simp at hi
 | c :: r,h=>by
   unfold fz at h;by_cases e:c=0
   ·rw [if_pos e] at h;cases h
   ·rw [if_neg e] at h;cases hr:fz r with
    | some j=>rw [hr] at h;simp at h
    | none=>
      have ih:=qo hr;intro i hi;cases i with
      | zero=>exact e
      | succ i=>exact ih i (by simpa using hi)
def atN (t:List Int) (p:Int):Int×ByteArray:=
 if (t.length:Int)≤p then (10,.empty)
 else match fz (am t p.toNat (t.length-p.toNat)) with
  | some k=>(0,strOfNums (am t p.toNat k))
  | none=>(11,.empty)
def bX (t:List Int):List Int→Int×List ByteArray
 | []=>(0,[])
 | p :: ps=>if (atN t p).1≠0 then ((atN t p).1,[]) else if (atN t p).2=.empty then (11,[]) else ((bX t ps).1,(atN t p).2 :: (bX t ps).2)
def bx (t:List Int):List Sy→Int×List ByteArray
 | []=>(0,[])
 | s :: r=>if (atN t s.na).1≠0 then ((atN t s.na).1,[]) else ((bx t r).1,(atN t s.na).2 :: (bx t r).2)
def dr (L:List Sg) (addr size:Int):Int×Int:=
 if size=0 then (40,0) else match L.find? (gU addr size) with
  | none=>(40,0)
  | some s=>(0,fH s addr)
theorem rh (L:List Sg) (addr size:Int):mx L addr size=.tuple #[.int .u64 (dr L addr size).2,.int .i64 (dr L addr size).1]:=by
 unfold mx dr;split
 ·rfl
 ·cases L.find? (gU addr size)<;>rfl
def fm (zs:List Int) (p s:Int):Int×List Int:=if (zs.length:Int)<p+s then (10,[]) else (0,am zs p.toNat s.toNat)
def aH (L:List Sg) (zs:List Int) (addr size:Int):Int×List Int:=
 if (dr L addr size).1≠0 then ((dr L addr size).1,[]) else fm zs (dr L addr size).2 size
structure Na where
 so:ByteArray
 nd:List ByteArray
 nm:List ByteArray
 sy:List Sy
 rl:List Rl
def na0:Na:=⟨.empty,[],[],[],[]⟩
def lL (L:List Sg) (zs V:List Int) (so:ByteArray) (nd nm:List ByteArray) (sy:List Sy):Int×Na:=
 if 65536<V.getD 6 0 then (13,na0)
 else if V.getD 6 0≤0 then (0,⟨so,nd,nm,sy,[]⟩)
 else if (aH L zs (V.getD 5 0) (V.getD 6 0)).1≠0 then ((aH L zs (V.getD 5 0) (V.getD 6 0)).1,na0)
 else if (fq (aH L zs (V.getD 5 0) (V.getD 6 0)).2).1≠0 then ((fq (aH L zs (V.getD 5 0) (V.getD 6 0)).2).1,na0)
 else (dc (fq (aH L zs (V.getD 5 0) (V.getD 6 0)).2).2 sy.length,⟨so,nd,nm,sy,(fq (aH L zs (V.getD 5 0) (V.getD 6 0)).2).2⟩)
def nB (L:List Sg) (zs V t:List Int) (so:ByteArray) (nd:List ByteArray):Int×Na:=
 if 1024<V.getD 4 0 then (13,na0)
 else if V.getD 4 0≤0 then lL L zs V so nd [] []
 else if (aH L zs (V.getD 3 0) (24*V.getD 4 0)).1≠0 then ((aH L zs (V.getD 3 0) (24*V.getD 4 0)).1,na0)
 else if dC (el (aH L zs (V.getD 3 0) (24*V.getD 4 0)).2).2≠0 then (11,na0)
 else if (bx t (el (aH L zs (V.getD 3 0) (24*V.getD 4 0)).2).2).1≠0 then ((bx t (el (aH L zs (V.getD 3 0) (24*V.getD 4 0)).2).2).1,na0)
 else lL L zs V so nd (bx t (el (aH L zs (V.getD 3 0) (24*V.getD 4 0)).2).2).2 (el (aH L zs (V.getD 3 0) (24*V.getD 4 0)).2).2
def lu (L:List Sg) (zs V N t:List Int) (so:ByteArray):Int×Na:=
 if (bX t N).1≠0 then ((bX t N).1,na0) else nB L zs V t so (bX t N).2
def uQ (L:List Sg) (zs V N t:List Int):Int×Na:=
 if V.getD 0 0=0 then lu L zs V N t .empty
 else if (atN t (V.getD 0 0)).1≠0 then ((atN t (V.getD 0 0)).1,na0) else lu L zs V N t (atN t (V.getD 0 0)).2
def qC (L:List Sg) (zs V N:List Int):Int×Na:=
 if (aH L zs (V.getD 1 0) (V.getD 2 0)).1≠0 then ((aH L zs (V.getD 1 0) (V.getD 2 0)).1,na0)
 else if chk (aH L zs (V.getD 1 0) (V.getD 2 0)).2≠0 then (11,na0)
 else uQ L zs V N (aH L zs (V.getD 1 0) (V.getD 2 0)).2
def jF (L:List Sg) (zs:List Int) (s:Sg):Int×Na:=
 if (dS (fm zs s.ot s.fi).2).1≠0 then ((dS (fm zs s.ot s.fi).2).1,na0)
 else qC L zs (dS (fm zs s.ot s.fi).2).2.v (dS (fm zs s.ot s.fi).2).2.nd
def inI (r:Rl) (s:Sg):Bool:=decide (s.ty=1∧s.va≤r.of∧r.of<IntKind.u64.wrap (s.va+s.me)∧8≤IntKind.u64.wrap (IntKind.u64.wrap (s.va+s.me)-r.of))
def mY (L:List Sg) (r:Rl):Bool:=decide (r.ty=0) || L.any (inI r)
def ik (t:Option Sg) (s:Sy):Int:=
 if s.se=0 then 0
 else if s.inf % 16=6 then (match t with
  | none=>11
  | some g=>if g.me<s.va then 11 else 0)
 else if 4294967296<s.va then 13 else 0
def il (t:Option Sg):List Sy→Int
 | []=>0
 | s :: r=>if ik t s≠0 then ik t s else il t r
def jV (L:List Sg) (sy:List Sy) (rl:List Rl):Int:=if rl.any (fun r=>!mY L r) then 40 else il (L.find? (bC 7)) sy
structure Im where
 k:Int
 e:Int
 s:Int
 c:Int
 sg:List Sg
 so:ByteArray
 nd:List ByteArray
 nm:List ByteArray
 sy:List Sy
 rl:List Rl
 zs:List Int
def im0:Im:=⟨0,0,0,0,[],.empty,[],[],[],[],[]⟩
def wT (zs:List Int) (k e s c:Int) (L:List Sg):Int×Im:=
 if (match L.find? (bC 2) with
     | none=>((0,na0):Int×Na)
     | some d=>jF L zs d).1≠0 then ((match L.find? (bC 2) with
     | none=>((0,na0):Int×Na)
     | some d=>jF L zs d).1,im0)
 else
  let x:=(match L.find? (bC 2) with
   | none=>((0,na0):Int×Na)
   | some d=>jF L zs d).2
  if jV L x.sy x.rl≠0 then (jV L x.sy x.rl,im0) else (0,⟨k,e,s,c,L,x.so,x.nd,x.nm,x.sy,x.rl,zs⟩)
def fN (zs:List Int):Int×Im:=
 if 65536<zs.length then (13,im0)
 else if zs.length<64 then (10,im0)
 else if dD zs=false then (11,im0)
 else if kOf zs=4 then (11,im0)
 else if (bg zs (sOf zs) (cOf zs)).1≠0 then ((bg zs (sOf zs) (cOf zs)).1,im0)
 else if bZ (bg zs (sOf zs) (cOf zs)).2 zs.length≠0 then (bZ (bg zs (sOf zs) (cOf zs)).2 zs.length,im0)
 else if (bg zs (sOf zs) (cOf zs)).2.find? (bC 1)=none then (11,im0)
 else wT zs (kOf zs) (eOf zs) (sOf zs) (cOf zs) (bg zs (sOf zs) (cOf zs)).2
theorem at_ok (B:Nat) (a:Option Addr) (len cap:Nat) (zs:List Int) (p k:Nat) (w:World) (hb:Bys w B a len zs) (hcap:len≤cap) (hcm:(cap:Int)≤9223372036854775807) (hp:p<len) (hz:cV (am zs p (len-p)) k) :
 Calls Tryz.prog 102 #[.slice a len cap,.int .u64 p] w fun e w'=>e=.returned (.tuple #[.string (strOfNums (am zs p k)),.int .i64 0])∧w=w':=by
 obtain ⟨b,off,rfl,_,_⟩:=hb.2.2 oZm;have HS:=hZz (hb.sub (p:=p) (n:=len-p) oZm);have HI:=hZz (gJ HS.out.2.1 hz);have hk:k<len-p:=by have:=hz.1;rw [HS.out.1] at this;exact this
 have hpi:(p:Int)<(len:Int):=by omega
 have hkc:k≤cap-p:=by omega
 have hconv:=(hb.sub (p:=p) (n:=k) oZm).conv (cap-p);clear hb hz;go_enter Tryz.func102,Tryz.ntmps102
 go_wp2_with (go_at_call 142;refine (jS _ _ _ _ _ _ _ HS.out oZm HI.out).mono ?_;rintro e w' ⟨rfl,rfl⟩);go_ret2;exact ⟨rfl,rfl⟩
structure Sh where
 a:Option Addr
 n:Nat
 c:Nat
def Sh.zero:Sh:=⟨none,0,0⟩
structure Sh.Ok (h:Sh):Prop where
 le:h.n≤h.c
 max:(h.c:Int)≤9223372036854775807
theorem Sh.zero_ok:Sh.zero.Ok:=⟨lZr _,by decide⟩
structure Iv where
 k:Int
 e:Int
 s:Int
 c:Int
 sg:Sh
 so:ByteArray
 nd:Sh
 nm:Sh
 sy:Sh
 rl:Sh
 zs:Sh
def Iv.val (x:Iv):Value:=.agg #[.int .i64 x.k,.int .u64 x.e,.int .u64 x.s,.int .i64 x.c,.slice x.sg.a x.sg.n x.sg.c,.string x.so,.slice x.nd.a x.nd.n x.nd.c,.slice x.nm.a x.nm.n x.nm.c,.slice x.sy.a x.sy.n x.sy.c,.slice x.rl.a x.rl.n x.rl.c,.slice x.zs.a x.zs.n x.zs.c]
def iv0:Iv:=⟨0,0,0,0,Sh.zero,.empty,Sh.zero,Sh.zero,Sh.zero,Sh.zero,Sh.zero⟩
structure Iv.Is (w:World) (B:Nat) (x:Iv) (m:Im):Prop where
 k:x.k=m.k
 e:x.e=m.e
 s:x.s=m.s
 c:x.c=m.c
 so:x.so=m.so
 sg:Sgs w B x.sg.a x.sg.n m.sg
 nd:du w B x.nd.a x.nd.n m.nd
 nm:du w B x.nm.a x.nm.n m.nm
 sy:Sy.Sl w B x.sy.a x.sy.n m.sy
 rl:Rl.Sl w B x.rl.a x.rl.n m.rl
 zs:Bys w B x.zs.a x.zs.n m.zs
 osg:x.sg.Ok
 ond:x.nd.Ok
 onm:x.nm.Ok
 osy:x.sy.Ok
 orl:x.rl.Ok
 ozs:x.zs.Ok
theorem du.empty (w:World) (B:Nat) (a:Option Addr):du w B a 0 []:=⟨rfl,fun h=>absurd h oZm⟩
theorem wJ (w:World) (B:Nat):iv0.Is w B im0:=
 ⟨rfl,rfl,rfl,rfl,rfl,Sgs.empty _ _ _,du.empty _ _ _,du.empty _ _ _,Sy.Sl.empty _ _ _,Rl.Sl.empty _ _ _,Bys.empty _ _ _,Sh.zero_ok,Sh.zero_ok,Sh.zero_ok,Sh.zero_ok,Sh.zero_ok,Sh.zero_ok⟩
theorem Iv.cs {w:World} {g:Nat} {v0 v1 v2 v3 v4 v5 v6 v7 v8 v9 v10:Value} {t:TypeId} (h:Blk w g #[v0,v1,v2,v3,v4,v5,v6,v7,v8,v9,v10] t) :
 w.cell? ⟨g,0,none⟩=some v0∧w.cell? ⟨g,1,none⟩=some v1∧w.cell? ⟨g,2,none⟩=some v2∧w.cell? ⟨g,3,none⟩=some v3∧w.cell? ⟨g,4,none⟩=some v4∧w.cell? ⟨g,5,none⟩=some v5∧w.cell? ⟨g,6,none⟩=some v6∧w.cell? ⟨g,7,none⟩=some v7∧w.cell? ⟨g,8,none⟩=some v8∧w.cell? ⟨g,9,none⟩=some v9∧w.cell? ⟨g,10,none⟩=some v10:=
 ⟨h.cell 0,h.cell 1,h.cell 2,h.cell 3,h.cell 4,h.cell 5,h.cell 6,h.cell 7,h.cell 8,h.cell 9,h.cell 10⟩
theorem Iv.fs {w:World} {g:Nat} {v0 v1 v2 v3 v4 v5 v6 v7 v8 v9 v10:Value} {t:TypeId} (h:Blk w g #[v0,v1,v2,v3,v4,v5,v6,v7,v8,v9,v10] t) :
 w.frozen? ⟨g,0,none⟩=false∧w.frozen? ⟨g,1,none⟩=false∧w.frozen? ⟨g,2,none⟩=false∧w.frozen? ⟨g,3,none⟩=false∧w.frozen? ⟨g,4,none⟩=false∧w.frozen? ⟨g,5,none⟩=false∧w.frozen? ⟨g,6,none⟩=false∧w.frozen? ⟨g,7,none⟩=false∧w.frozen? ⟨g,8,none⟩=false∧w.frozen? ⟨g,9,none⟩=false∧w.frozen? ⟨g,10,none⟩=false:=
 ⟨h.frozen 0,h.frozen 1,h.frozen 2,h.frozen 3,h.frozen 4,h.frozen 5,h.frozen 6,h.frozen 7,h.frozen 8,h.frozen 9,h.frozen 10⟩
def gz (Z:Int×List Int) (w:World) (e:Ending) (w':World):Prop:=
 (∃u,e=.returned (.tuple #[u,.int .i64 Z.1])∧w'.ownsRow w.heap.size 5 1 u Z.2.length (Z.2.map (Value.int .u8)))∧Below w.heap.size w w'
theorem mq {zs:List Int} (h:∀n∈zs,0≤n∧n≤255) (p s:Int):∀n∈(fm zs p s).2,0≤n∧n≤255:=by
 unfold fm;split
 ·intro n hn;cases hn
 ·exact ex h
theorem hG {zs:List Int} (h:∀n∈zs,0≤n∧n≤255) (L:List Sg) (a s:Int):∀n∈(aH L zs a s).2,0≤n∧n≤255:=by
 unfold aH;split
 ·intro n hn;cases hn
 ·exact mq h _ _
theorem tB (zs:List Int) (p s:Int):(fm zs p s).2.length≤zs.length:=by
 unfold fm;split
 ·exact Nat.zero_le _
 ·show (am zs p.toNat s.toNat).length≤zs.length;unfold am;rw [List.length_take,List.length_drop];omega
theorem kG (L:List Sg) (zs:List Int) (a s:Int):(aH L zs a s).2.length≤zs.length:=by
 unfold aH;split
 ·exact Nat.zero_le _
 ·exact tB _ _ _
theorem jY {w:World} {g:Nat} {C:Array Value} {t:TypeId} (h:Blk w g C t) (n:Nat):Blk (w.drewN n) g C t:=by
 induction n with
 | zero=>exact h
 | succ n ih=>exact ih.drew
theorem ox {t:Option Sg}:∀{l:List Sy} {k:Nat},(∀j,j<k→ik t (l.getD j Sy.zero)=0)→k<l.length→ik t (l.getD k Sy.zero)≠0→il t l=ik t (l.getD k Sy.zero)
 | [],k,_,h,_=>by simp at h
 | s :: l,0,_,_,h=>by
   have h':ik t s≠0:=h;unfold il;rw [if_pos h'];rfl
 | s :: l,k+1,h0,h1,h2=>by
   have h':ik t s=0:=h0 0 oZm;unfold il;rw [if_neg (by rw [h'];decide)];exact ox (l:=l) (k:=k) (fun j hj=>h0 (j+1) oZm) (by simpa using h1) h2
theorem nN {t:Option Sg}:∀{l:List Sy},(∀j,j<l.length→ik t (l.getD j Sy.zero)=0)→il t l=0
 | [],_=>rfl
 | s :: l,h=>by
   have h':ik t s=0:=h 0 (by simp);unfold il;rw [if_neg (by rw [h'];decide)];exact nN (l:=l) (fun j hj=>h (j+1) (by simpa using hj))
theorem mR {P:Nat→Prop} {k:Nat} (h:∀j,j<k→P j) (hk:P k):∀j,j<k+1→P j:=by
 intro j hj;by_cases e:j=k
 ·subst e;exact hk
 ·exact h j oZm


theorem jz (L:List Sg) (a s:Int):0≤(dr L a s).2∧(dr L a s).2≤18446744073709551615:=by
 unfold dr;split
 ·decide
 ·cases L.find? (gU a s) with
  | none=>exact ⟨Int.le_refl 0,show (0:Int)≤18446744073709551615 by decide⟩
  | some g=>
    show 0≤fH g a∧fH g a≤18446744073709551615;unfold fH;rw [IntKind.wrap_u64];omega
structure Nus (w:World) (B:Nat) (a:Option Addr) (len:Nat) (zs:List Int):Prop where
 hl:zs.length=len
 bd:∀n∈zs,0≤n∧n≤18446744073709551615
 hc:0<len→∃b off,a=some ⟨b,off,none⟩∧b<B∧∀i,i<len→w.cell? ⟨b,off+i,none⟩=some (.int .u64 (zs.getD i 0))
theorem Nus.below {w w':World} {B:Nat} {a:Option Addr} {len:Nat} {zs:List Int} (h:Nus w B a len zs) (hb:Below B w w'):Nus w' B a len zs:=
 ⟨h.hl,h.bd,fun hl=>by
  obtain ⟨b,off,e,hB,hc⟩:=h.hc hl;exact ⟨b,off,e,hB,fun i hi=>(hb.cell (p:=⟨b,off+i,none⟩) hB).trans (hc i hi)⟩⟩
theorem Nus.more {w:World} {B B':Nat} {a:Option Addr} {len:Nat} {zs:List Int} (h:Nus w B a len zs) (hB:B≤B'):Nus w B' a len zs:=
 ⟨h.hl,h.bd,fun hl=>by
  obtain ⟨b,off,e,hb,hc⟩:=h.hc hl;exact ⟨b,off,e,Nat.lt_of_lt_of_le hb hB,hc⟩⟩
theorem gC {zs:List Int} {i:Nat} (h:i<zs.length):(zs.map (Value.int .u64))[i]?=some (.int .u64 (zs.getD i 0)):=by
 rw [List.getElem?_map,gZg h,gZe,gZg h];rfl
theorem Nus.own {w:World} {base:Nat} {e:TypeId} {a:Option Addr} {len cap:Nat} {zs:List Int} (hz:∀n∈zs,0≤n∧n≤18446744073709551615)
 (h:w.ownsRow base e 1 (.slice a len cap) len (zs.map (Value.int .u64))):Nus w w.heap.size a len zs:=by
 have hl:zs.length=len:=by have:=h.1;simpa using this
 refine ⟨hl,hz,fun hp=>?_⟩;obtain ⟨b,off,e1,hB,hc⟩:=(Cel.own h).2 hp;refine ⟨b,off,e1,hB,fun i hi=>?_⟩;rw [hc i hi,gC (by omega)]
theorem Nus.at {w:World} {B:Nat} {a:Option Addr} {len:Nat} {zs:List Int} (h:Nus w B a len zs) {i:Nat} (hi:i<len):0≤zs.getD i 0∧zs.getD i 0≤18446744073709551615:=by
 have hl:=h.hl;rw [gZe,gZg (by omega)];exact h.bd _ (List.getElem_mem oZm)
theorem Nus.lit (w:World) (zs:List Int) (hz:∀n∈zs,0≤n∧n≤18446744073709551615) (t:TypeId):Nus (w.alloc (.cells (zs.map (Value.int .u64)).toArray t)) (w.heap.size+1) (some ⟨w.heap.size,0,none⟩) zs.length zs:=
 ⟨rfl,hz,fun h=>⟨w.heap.size,0,rfl,by omega,fun i hi=>by
  rw [Nat.zero_add,World.cell?_alloc_at _ _ _ _ rfl];simpa using gC hi⟩⟩
structure Kp (g:Nat) (W w:World):Prop where
 size:W.heap.size≤w.heap.size
 blk:∀b,b≠g→b<W.heap.size→w.heap[b]?=W.heap[b]?
theorem Kp.refl (g:Nat) (W:World):Kp g W W:=⟨lZr _,fun _ _ _=>rfl⟩
theorem Kp.trans {g:Nat} {a b c:World} (h:Kp g a b) (k:Kp g b c):Kp g a c:=
 ⟨Nat.le_trans h.size k.size,fun x hx hl=>(k.blk x hx (Nat.lt_of_lt_of_le hl h.size)).trans (h.blk x hx hl)⟩
theorem Kp.below {g:Nat} {W w:World} (h:Below W.heap.size W w):Kp g W w:=⟨h.size,fun b _ hl=>h.block b hl⟩
theorem Kp.set {g:Nat} {W w:World} (h:Kp g W w) (i:Nat) (u:Value):Kp g W (w.setCell ⟨g,i,none⟩ u):=
 ⟨by have:=h.size;simpa using this,fun b hb hl=>by rw [Below.heap_setCell _ _ _ _ hb];exact h.blk b hb hl⟩
theorem Kp.blks {g:Nat} {W w:World} (h:Kp g W w) {b:Nat} {C:Array Value} {t:TypeId} (hk:Blk W b C t) (hb:b≠g):Blk w b C t:=by
 unfold Blk;rw [h.blk b hb hk.lt];exact hk
theorem ch (base:Nat) (v:Value) (m:Nat) (zs:List Int) (x y:Int) (w:World) (ho:w.ownsRow base 5 1 v m (zs.map (Value.int .u8))) (hbase:base≤w.heap.size) (hm:m≤1000000) (x0:0≤x) (x1:x≤18446744073709551615) (y0:0≤y) (y1:y≤18446744073709551615) :
 Calls Tryz.prog 80 #[v,.int .u64 x,.int .u64 y] w fun r w'=>∃v',r=.returned v'∧w'.ownsRow base 5 1 v' (m+16) ((zs++iD (x,y)).map (Value.int .u8))∧Below base w w':=by
 obtain ⟨i0,hi,hz0,hz1,hz2⟩:=info_parts aM;have HO:=hZz ho;have HI:=hZz hi;have HZ0:=hZz hz0;have HZ1:=hZz hz1;have HZ2:=hZz hz2;clear ho hi hz0 hz1 hz2;go_enter Tryz.func80,Tryz.ntmps80
 go_wp2;go_loopw [0,1,7] (fun v' q i wr=>∃k:Nat,k≤8∧i=.int .i64 k∧q=.int .u64 (x / 256 ^ k)∧wr.ownsRow base 5 1 v' (m+k) ((zs++ai x k).map (Value.int .u8))∧Below base w wr) (fun _ _ i _=>8-(intOf i).toNat)
 case atStart=>exact ⟨0,Nat.zero_le _,rfl,by simp,by simpa [ai] using HO.out,Below.refl _ _⟩
 case round=>
  obtain ⟨k,hk,rfl,rfl,hown,hbel⟩:=hrel;by_cases hlt:k<8
  ·have hdv:=hZz (fZ x k);have hdg:Hid (ai x (k+1)=ai x k++[x / 256 ^ k % 256]):=hZz rfl;have hq0:0≤x / 256 ^ k:=Int.ediv_nonneg x0 (Int.pow_nonneg dZc);have hq1:x / 256 ^ k≤18446744073709551615:=Int.le_trans (Int.ediv_le_self _ x0) x1;generalize x / 256 ^ k=q at hdv hdg hq0 hq1⊢;have hsz:=hbel.size;have HOWN:=hZz hown;clear hown;go_wp2_with (at_builtin;refine wpList_append_own _ rfl _ _ 22 rfl base 5 i0 (.int .u8 0) 1 1 Tryz.underlying22 HI.out HZ0.out HZ1.out HZ2.out rfl dZc _ (m+k) _ rfl (HOWN.out.alloc _) ⟨wr.heap.size,0,none⟩ 1 1 [.int .u8 (q % 256)] rfl rfl ?c1 ?c2 ?c3 ?c4 ?c5 ?_);case c1=>exact cell_one_new _ _ _
   case c2=>intro u hu;obtain rfl:=List.mem_singleton.1 hu;rfl
   case c3=>unfold maxLen;omega
   case c4=>omega
   case c5=>simp;omega
   intro v2 w2 hown2 hg2 hnil2;have hb2:Below base w w2:=(hbel.alloc oZm _).grown hg2 (by simp;omega) (fun q e=>(HOWN.out.lt q e).1);have HO2:Hid (w2.ownsRow base 5 1 v2 (m+(k+1)) ((zs++ai x (k+1)).map (Value.int .u8))):=hZz (by
    rw [hdg.out];simpa only [List.map_append,List.append_assoc,List.map_cons,List.map_nil,Nat.add_assoc] using hown2)
   clear hown2 hg2 hnil2 hbel;go_wp2;go_roundw
   case rel=>exact ⟨k+1,by omega,by go_num,by rw [hdv.out],HO2.out,hb2⟩
   case measure=>(simp [intOf]<;>omega)
  ·obtain rfl:k=8:=by omega
   rw [show ((8:Nat):Int)=8 from rfl];generalize x / 256 ^ 8=q8;have HOW:=hZz hown;have HBE:=hZz hbel;clear hown hbel;go_wp2;go_loopw [0,2,8] (fun v' q i wr=>∃k:Nat,k≤8∧i=.int .i64 k∧q=.int .u64 (y / 256 ^ k)∧wr.ownsRow base 5 1 v' (m+8+k) ((zs++ai x 8++ai y k).map (Value.int .u8))∧Below base w wr) (fun _ _ i _=>8-(intOf i).toNat)
   case atStart=>exact ⟨0,Nat.zero_le _,rfl,by simp,by simpa [ai] using HOW.out,HBE.out⟩
   case round=>
    obtain ⟨k,hk,rfl,rfl,hown,hbel⟩:=hrel;by_cases hlt:k<8
    ·have hdv:=hZz (fZ y k);have hdg:Hid (ai y (k+1)=ai y k++[y / 256 ^ k % 256]):=hZz rfl;have hq0:0≤y / 256 ^ k:=Int.ediv_nonneg y0 (Int.pow_nonneg dZc);have hq1:y / 256 ^ k≤18446744073709551615:=Int.le_trans (Int.ediv_le_self _ y0) y1;generalize y / 256 ^ k=q at hdv hdg hq0 hq1⊢;have hsz:=hbel.size;have HOWN:=hZz hown;clear hown;go_wp2_with (at_builtin;refine wpList_append_own _ rfl _ _ 22 rfl base 5 i0 (.int .u8 0) 1 1 Tryz.underlying22 HI.out HZ0.out HZ1.out HZ2.out rfl dZc _ (m+8+k) _ rfl (HOWN.out.alloc _) ⟨wr.heap.size,0,none⟩ 1 1 [.int .u8 (q % 256)] rfl rfl ?d1 ?d2 ?d3 ?d4 ?d5 ?_);case d1=>exact cell_one_new _ _ _
     case d2=>intro u hu;obtain rfl:=List.mem_singleton.1 hu;rfl
     case d3=>unfold maxLen;omega
     case d4=>omega
     case d5=>simp;omega
     intro v2 w2 hown2 hg2 hnil2;have hb2:Below base w w2:=(hbel.alloc oZm _).grown hg2 (by simp;omega) (fun q e=>(HOWN.out.lt q e).1);have HO2:Hid (w2.ownsRow base 5 1 v2 (m+8+(k+1)) ((zs++ai x 8++ai y (k+1)).map (Value.int .u8))):=hZz (by
      rw [hdg.out];simpa only [List.map_append,List.append_assoc,List.map_cons,List.map_nil,Nat.add_assoc] using hown2)
     clear hown2 hg2 hnil2 hbel;go_wp2;go_roundw
     case rel=>exact ⟨k+1,by omega,by go_num,by rw [hdv.out],HO2.out,hb2⟩
     case measure=>(simp [intOf]<;>omega)
    ·obtain rfl:k=8:=by omega
     have HOW:=hZz hown;clear hown;have HFI:Hid (wr.ownsRow base 5 1 _ (m+16) ((zs++iD (x,y)).map (Value.int .u8))):=hZz (by
      have:=HOW.out;simpa only [iD,List.append_assoc,Nat.add_assoc] using this)
     clear HOW;go_wp2;go_ret;exact ⟨_,rfl,HFI.out,hbel⟩
theorem sT:∀n∈bo,0≤n∧n≤18446744073709551615:=by decide
theorem fh (w:World):Calls Tryz.prog 81 #[] w fun r w'=>r=.returned (.slice (some ⟨w.heap.size,0,none⟩) 7 7)∧Nus w' (w.heap.size+1) (some ⟨w.heap.size,0,none⟩) 7 bo∧Below w.heap.size w w':=by
 have HN:Hid (Nus (w.alloc (.cells #[.int .u64 14,.int .u64 5,.int .u64 10,.int .u64 6,.int .u64 1610612749,.int .u64 7,.int .u64 8] 24)) (w.heap.size+1) (some ⟨w.heap.size,0,none⟩) 7 bo):=hZz (Nus.lit w bo sT 24);have hbl:∀o,Below w.heap.size w (w.alloc o):=fun o=>(Below.refl _ _).alloc (lZr _) o;go_enter Tryz.func81,Tryz.ntmps81
 go_wp2;go_ret;exact ⟨rfl,HN.out,hbl _⟩
theorem b2 {w:World} {g:Nat} {v0 v1:Value} {t:TypeId} (h:Blk w g #[v0,v1] t):w.cell? ⟨g,0,none⟩=some v0∧w.cell? ⟨g,1,none⟩=some v1:=⟨h.cell 0,h.cell 1⟩
theorem g2 {w:World} {g:Nat} {v0 v1:Value} {t:TypeId} (h:Blk w g #[v0,v1] t):w.frozen? ⟨g,0,none⟩=false∧w.frozen? ⟨g,1,none⟩=false:=⟨h.frozen 0,h.frozen 1⟩
def af (n:Nat) (y:Nat→Value):Array Value:=((List.range n).map y).toArray
theorem aQ (n:Nat) (y:Nat→Value):(af n y).size=n:=by simp [af]
theorem aS (n:Nat) (y:Nat→Value) (t:Nat) (h:t<n):(af n y)[t]?=some (y t):=by simp [af,h]
theorem eD (n:Nat) (y:Nat→Value) (t:Nat) (u:Value):(af n y).setIfInBounds t u=af n (fun s=>if s=t then u else y s):=by
 apply Array.ext_getElem?
 intro i;rw [Array.getElem?_setIfInBounds];by_cases hi:i<n
 ·rw [aS _ _ _ hi,aS _ _ _ hi,aQ];by_cases h:t=i
  ·subst h;simp [hi]
  ·simp [h,Ne.symm h]
 ·rw [Array.getElem?_eq_none (by rw [aQ];omega),Array.getElem?_eq_none (by rw [aQ];omega),aQ];by_cases h:t=i
  ·subst h;simp [hi]
  ·simp [h]
theorem ap (x:List Value):x.toArray=af x.length (fun t=>x.getD t undef):=by
 apply Array.ext_getElem?
 intro i;by_cases hi:i<x.length
 ·rw [aS _ _ _ hi];simp [hi]
 ·rw [Array.getElem?_eq_none (by simpa using hi),Array.getElem?_eq_none (by rw [aQ];omega)]
def cf (P:Program) (o:Oper) (a:Act) (w:World) (post:Value→World→Prop):Prop:=
 ∀(K:Act→World→Prop) (Q:Exit→Act→World→Prop),(∀u w',post u w'→K (a.put o.dst u) w')→o.wp P a w K Q
def aO (v:Nat→Value):Nat→List Nat→List Value→List Value
 | _,[],x=>x
 | i,t :: ts,x=>aO v (i+1) ts (x.set t (v i))
def ml (l:List Oper) (dsts:List Nat) (n:Nat):Bool:=
 decide (l.map (·.dst)=dsts.map some) && decide dsts.Nodup && dsts.all (·<n) &&
 (List.range l.length).all fun i=>match l[i]? with
  | some o=>o.after.toList.all fun e=>!Region.binds .any e || decide (e.on<i)
  | none=>true
def cG (o:Oper):List Nat:=(o.after.toList.filter (Region.binds .any)).map (·.on)
def oo (P:Program) (L:List Oper) (o:Oper) (a:Act) (w:World) (R:World→World→Prop) (F:Value→World→Prop):Prop:=
 (Region.wanted o (yielded L.toArray a.tmps)=true→cf P o a w fun u w'=>R w w'∧F u w')∧(Region.wanted o (yielded L.toArray a.tmps)=false→F undef w)
theorem oo.plain {P:Program} {L:List Oper} {o:Oper} {a:Act} {w:World} {R:World→World→Prop} {F:Value→World→Prop} (hg:o.guard=none) (h:cf P o a w fun u w'=>R w w'∧F u w'):oo P L o a w R F:=
 ⟨fun _=>h,fun hw=>by
  have:Region.wanted o (yielded L.toArray a.tmps)=true:=by unfold Region.wanted;rw [hg]
  rw [this] at hw;cases hw⟩
def fU (P:Program) (L:List Oper) (R:World→World→Prop) (n:Nat) (x:List Value) (d:List Deferred) (w0:World) (dsts:List Nat) (F:Nat→Value→World→Prop):Nat→List Oper→Prop
 | _,[]=>True
 | i,o :: l=>(∀(y:Nat→Value) (w:World),R w0 w→(∀t,t ∉ dsts→y t=x.getD t undef)→(∀j,j∈cG o→F j (y (dsts.getD j 0)) w)→
  oo P L o ⟨af n y,d⟩ w R (F i))∧fU P L R n x d w0 dsts F (i+1) l
theorem fU.get {P:Program} {L:List Oper} {R:World→World→Prop} {n:Nat} {x:List Value} {d:List Deferred} {w0:World} {dsts:List Nat} {F:Nat→Value→World→Prop} :
 ∀{l:List Oper} {k:Nat},fU P L R n x d w0 dsts F k l→∀i o,l[i]?=some o→
  ∀(y:Nat→Value) (w:World),R w0 w→(∀t,t ∉ dsts→y t=x.getD t undef)→(∀j,j∈cG o→F j (y (dsts.getD j 0)) w)→
   oo P L o ⟨af n y,d⟩ w R (F (k+i))
 | [],_,_,_,_,h=>by simp at h
 | o :: l,k,hs,0,o',h=>by
   simp only [List.getElem?_cons_zero,Option.some.injEq] at h;subst h;exact hs.1
 | o :: l,k,hs,i+1,o',h=>by
   rw [List.getElem?_cons_succ] at h;have:=hs.2.get i o' h
   rwa [show k+1+i=k+(i+1) from by omega] at this
theorem lv (v:Nat→Value):∀(ts:List Nat) (i:Nat) (x:List Value),ts.Nodup→(∀t∈ts,t<x.length)→
 (aO v i ts x).length=x.length∧(∀j t,ts[j]?=some t→(aO v i ts x)[t]?=some (v (i+j)))∧∀t,t ∉ ts→(aO v i ts x)[t]?=x[t]?
 | [],i,x,_,_=>⟨rfl,fun j t h=>by simp at h,fun t _=>rfl⟩
 | s :: ts,i,x,hn,hl=>by
   have hn':=List.nodup_cons.1 hn;obtain ⟨h1,h2,h3⟩:=lv v ts (i+1) (x.set s (v i)) hn'.2 (fun t ht=>by rw [List.length_set];exact hl t (by simp [ht]));refine ⟨by rw [aO,h1,List.length_set],fun j t hj=>?_,fun t ht=>?_⟩
   ·cases j with
    | zero=>
      simp only [List.getElem?_cons_zero,Option.some.injEq] at hj;subst hj;rw [aO,h3 s hn'.1,List.getElem?_set_self (hl s (by simp)),Nat.add_zero]
    | succ j=>
      rw [List.getElem?_cons_succ] at hj;rw [aO,h2 j t hj,show i+1+j=i+(j+1) from by omega]
   ·rw [aO,h3 t (fun h=>ht (by simp [h])),List.getElem?_set_ne (fun e=>ht (by simp [e]))]
theorem dK {l:List Nat} (hn:l.Nodup) (i j:Nat) (hi:i<l.length) (hj:j<l.length) (h:l[i]=l[j]):i=j:=by
 have hp:=List.pairwise_iff_getElem.1 hn;rcases Nat.lt_trichotomy i j with hij | hij | hij
 ·exact absurd h (hp i j hi hj hij)
 ·exact hij
 ·exact absurd h.symm (hp j i hj hi hij)
def left (l:Array Bool):Nat:=(l.toList.filter (!·)).length
theorem fW:∀(l:List Bool) (i:Nat),l[i]?=some false→((l.set i true).filter (!·)).length+1=(l.filter (!·)).length
 | [],i,h=>by simp at h
 | b :: l,0,h=>by
   simp only [List.getElem?_cons_zero,Option.some.injEq] at h;subst h;simp
 | b :: l,i+1,h=>by
   rw [List.getElem?_cons_succ] at h;have:=fW l i h;cases b<;>simp at this⊢<;>omega
theorem eX:∀(l:List Bool),(l.filter (!·)).length=0→∀i,i<l.length→l[i]?=some true
 | [],_,i,h=>by simp at h
 | b :: l,h,i,hi=>by
   cases b with
   | false=>simp at h
   | true=>
     cases i with
     | zero=>rfl
     | succ i=>rw [List.getElem?_cons_succ];exact eX l (by simpa using h) i (by simpa using hi)
section
variable {P:Program} {Q:Exit→Act→World→Prop}
theorem oq {l:List Oper} {x:List Value} {d:List Deferred} {w0:World} (R:World→World→Prop) (hrf:∀a,R a a) (htr:∀a b c,R a b→R b c→R a c) (dsts:List Nat) (F:Nat→Value→World→Prop)
 (hok:ml l dsts x.length=true) (hmono:∀i u w w',F i u w→R w w'→F i u w') (hsteps:fU P l R x.length x d w0 dsts F 0 l)
 (hend:∀(v:Nat→Value) (w:World),R w0 w→(∀i,i<l.length→F i (v i) w)→Q .normal ⟨(aO v 0 dsts x).toArray,d⟩ w) :
 ∀(fuel:Nat) (listed:Array Bool) (y:Nat→Value) (w:World),left listed≤fuel→listed.size=l.length→(∀t,t ∉ dsts→y t=x.getD t undef)→
  (∀i,listed[i]?=some true→F i (y (dsts.getD i 0)) w)→R w0 w→wpAny P .any l.toArray Q fuel listed ⟨af x.length y,d⟩ w:=by
 simp only [ml,Bool.and_eq_true,decide_eq_true_eq,List.all_eq_true,List.mem_range] at hok;obtain ⟨⟨⟨hd,hnd⟩,hlt⟩,hord⟩:=hok;have hdl:dsts.length=l.length:=by have:=congrArg List.length hd;simpa using this.symm
 have fin:∀(listed:Array Bool) (y:Nat→Value) (w:World),listed.size=l.length→(∀t,t ∉ dsts→y t=x.getD t undef)→
  (∀i,listed[i]?=some true→F i (y (dsts.getD i 0)) w)→R w0 w→(∀i,i<l.length→listed[i]?=some true)→Q .normal ⟨af x.length y,d⟩ w:=by
  intro listed y w hsz hy hF hb hall;have h:=hend (fun i=>y (dsts.getD i 0)) w hb (fun i hi=>hF i (hall i hi));have e:(aO (fun i=>y (dsts.getD i 0)) 0 dsts x).toArray=af x.length y:=by
   obtain ⟨h1,h2,h3⟩:=lv (fun i=>y (dsts.getD i 0)) dsts 0 x hnd (fun t ht=>by simpa using hlt t ht);apply Array.ext_getElem?
   intro t;rw [List.getElem?_toArray];by_cases ht:t<x.length
   ·rw [aS _ _ _ ht];by_cases hm:t∈dsts
    ·obtain ⟨j,hj,hjt⟩:=List.getElem_of_mem hm;have hj':dsts[j]?=some t:=by rw [gZg hj,hjt]
     rw [h2 j t hj',Nat.zero_add,gZe,hj'];rfl
    ·rw [h3 t hm,hy t hm,gZe,gZg ht];rfl
   ·rw [List.getElem?_eq_none oZm,Array.getElem?_eq_none (by rw [aQ];omega)]
  rw [e] at h;exact h
 intro fuel;induction fuel with
 | zero=>
   intro listed y w hf hsz hy hF hb;have hall:∀i,i<l.length→listed[i]?=some true:=fun i hi=>by
    have:=eX listed.toList (by unfold left at hf;omega) i (by rw [Array.length_toList,hsz];exact hi);simpa using this
   refine ⟨?_,fin listed y w hsz hy hF hb hall⟩;apply List.eq_nil_iff_forall_not_mem.2
   intro j hj;obtain ⟨h0,o,ho,_⟩:=mem_ready.1 hj;have hjl:j<l.length:=by
    have:=(Array.getElem?_eq_some_iff.1 ho).1;simpa using this
   rw [Array.getD_eq_getD_getElem?,hall j hjl] at h0;cases h0
 | succ fuel ih=>
   intro listed y w hf hsz hy hF hb;refine ⟨fun hr=>?_,fun i hi=>?_⟩
   ·
    refine fin listed y w hsz hy hF hb ?_;intro i;induction i using Nat.strongRecOn with
    | ind i ihi=>
      intro hi;cases hli:listed[i]? with
      | none=>rw [Array.getElem?_eq_none_iff] at hli;omega
      | some b=>
        cases b with
        | true=>rfl
        | false=>
          exfalso
          have:i∈Region.ready .any l.toArray listed:=by
           refine mem_ready.2 ⟨by rw [Array.getD_eq_getD_getElem?,hli];rfl,l[i],by rw [List.getElem?_toArray,gZg hi],fun e he hbe=>?_⟩;have h1:=hord i hi;rw [gZg hi] at h1;have h2:=List.all_eq_true.1 h1 e (by simpa using he);rw [hbe] at h2;have h3:e.on<i:=by simpa using h2
           rw [Array.getD_eq_getD_getElem?,ihi e.on h3 (by omega)];rfl
          rw [hr] at this;cases this
   ·obtain ⟨h0,o,ho,hall⟩:=mem_ready.1 hi;have ho':l[i]?=some o:=by simpa using ho
    have hil:i<l.length:=(List.getElem?_eq_some_iff.1 ho').1;have hli:listed[i]?=some false:=by
     cases hli:listed[i]? with
     | none=>rw [Array.getElem?_eq_none_iff] at hli;omega
     | some b=>rw [Array.getD_eq_getD_getElem?,hli] at h0;rw [show b=false from h0]
    have hst:=hsteps.get i o ho' y w hb hy (fun j hj=>by
     unfold cG at hj;obtain ⟨e,he,rfl⟩:=List.mem_map.1 hj;obtain ⟨he1,he2⟩:=List.mem_filter.1 he;have:=hall e (by simpa using he1) he2;refine hF e.on ?_;cases hle:listed[e.on]? with
     | none=>rw [Array.getD_eq_getD_getElem?,hle] at this;cases this
     | some b=>rw [Array.getD_eq_getD_getElem?,hle] at this;rw [show b=true from this])
    rw [Nat.zero_add] at hst;have hdi:dsts[i]?=o.dst:=by
     have:=congrArg (fun z=>z[i]?) hd;simp only [List.getElem?_map,ho',Option.map_some] at this;cases hdi:dsts[i]? with
     | none=>rw [hdi] at this;cases this
     | some t=>rw [hdi] at this;simpa using this.symm
    obtain ⟨t,ht⟩:∃t,dsts[i]?=some t:=⟨dsts[i]'(by omega),gZg oZm⟩
    have hdst:o.dst=some t:=hdi▸ht;have after:∀u w',R w w'→F i u w'→wpAny P .any l.toArray Q fuel (listed.setIfInBounds i true) (Act.put ⟨af x.length y,d⟩ o.dst u) w':=by
     intro u w' hbw hFu;have ea:(Act.put ⟨af x.length y,d⟩ o.dst u)=⟨af x.length (fun s=>if s=t then u else y s),d⟩:=by
      rw [hdst];simp only [Act.put,eD]
     rw [ea];have hlf:=fW listed.toList i (by simpa using hli);refine ih _ _ _ ?_ (by rw [Array.size_setIfInBounds,hsz]) ?_ ?_ (htr _ _ _ hb hbw)
     ·unfold left at hf⊢;rw [Array.toList_setIfInBounds];omega
     ·intro s hs;have hst:s≠t:=fun e=>hs (e▸List.mem_of_getElem? ht);simp only [hst,if_false];exact hy s hs
     ·intro j hj;by_cases hji:j=i
      ·subst hji;rw [gZe,ht];simpa using hFu
      ·rw [Array.getElem?_setIfInBounds_ne (Ne.symm hji)] at hj;have hjl:j<dsts.length:=by
        have:=(Array.getElem?_eq_some_iff.1 hj).1;omega
       have hne:dsts.getD j 0≠t:=by
        rw [gZe,gZg hjl];intro e;have hit:dsts[i]'(by omega)=t:=(List.getElem?_eq_some_iff.1 ht).2;have:=dK hnd j i hjl oZm (show dsts[j]=dsts[i]'(by omega) from by rw [hit];simpa using e);exact hji this
       simp only [hne,if_false];exact hmono _ _ _ _ (hF j hj) hbw
    unfold wpOp;rw [ho];simp only
    cases hw:Region.wanted o (yielded l.toArray (af x.length y)) with
    | true=>
      rw [if_pos rfl];exact .inl (hst.1 hw _ _ fun u w' h=>after u w' h.1 h.2)
    | false=>
      rw [if_neg (by decide)];exact after undef w (hrf w) (hst.2 hw)
theorem ka {id:Nat} {l:List Oper} {x:List Value} {d:List Deferred} {w:World} (hm:P.follows .mixedOrders=true) (R:World→World→Prop) (hrf:∀a,R a a) (htr:∀a b c,R a b→R b c→R a c)
 (n:Nat) (hn:x.length=n) (dsts:List Nat) (F:Nat→Value→World→Prop)
 (hok:ml l dsts n=true) (hmono:∀i u w w',F i u w→R w w'→F i u w') (hsteps:fU P l R n x d w.drew dsts F 0 l)
 (hend:∀(v:Nat→Value) (w':World),R w.drew w'→(∀i,i<l.length→F i (v i) w')→Q .normal ⟨(aO v 0 dsts x).toArray,d⟩ w') :
 (Code.region id l.toArray true).wp P Q ⟨x.toArray,d⟩ w:=by
 subst hn;refine wp_region_any hm ?_;change wpAny P .any l.toArray Q _ _ _ w.drew;rw [ap x];have hl:∀n,((List.replicate n false).filter (!·)).length=n:=fun n=>by induction n with
  | zero=>rfl
  | succ n ih=>rw [List.replicate_succ];simp
 refine oq R hrf htr dsts F hok hmono hsteps hend _ _ _ _ ?_ (by simp) (fun t ht=>rfl) ?_ (hrf _)
 ·unfold left;rw [Array.toList_replicate,hl];exact lZr _
 ·intro i hi;rw [Array.getElem?_replicate] at hi;split at hi<;>cases hi
end
structure bG (B m:Nat) (w w':World):Prop where
 below:Below B w w'
 cells:∀(k:Nat) C t fr,w.heap[k]?=some (.cells C t fr)→∃fr',w'.heap[k]?=some (.cells C t fr')∧(fr'=fr∨C.size=m)
theorem bG.refl (B m:Nat) (w:World):bG B m w w:=⟨Below.refl _ _,fun k C t fr h=>⟨fr,h,.inl rfl⟩⟩
theorem bG.trans {B m:Nat} {a b c:World} (h:bG B m a b) (k:bG B m b c):bG B m a c:=
 ⟨h.below.trans k.below,fun i C t fr hi=>by
  obtain ⟨fr1,h1,e1⟩:=h.cells i C t fr hi;obtain ⟨fr2,h2,e2⟩:=k.cells i C t fr1 h1;refine ⟨fr2,h2,?_⟩;rcases e1 with rfl | e1
  ·exact e2
  ·exact .inr e1⟩
theorem bG.of_below {B m:Nat} {w w':World} (hB:B≤w.heap.size) (h:Below w.heap.size w w'):bG B m w w':=
 ⟨h.mono hB,fun k C t fr hk=>⟨fr,by
  rw [h.block k]
  ·exact hk
  ·exact (Array.getElem?_eq_some_iff.1 hk).1,.inl rfl⟩⟩
theorem bG.size {B m:Nat} {w w':World} (h:bG B m w w'):w.heap.size≤w'.heap.size:=h.below.size
theorem bG.cell {B m:Nat} {w w':World} (h:bG B m w w') {p:Addr} {v:Value} (hp:w.cell? p=some v):w'.cell? p=some v:=by
 unfold World.cell? at hp⊢;cases hk:w.heap[p.block]? with
 | none=>rw [hk] at hp;cases hp
 | some o=>
   rw [hk] at hp;cases o with
   | cells C t fr=>
     obtain ⟨fr',h',_⟩:=h.cells _ C t fr hk;rw [h'];exact hp
   | _=>cases hp
theorem Bys.kept {B m:Nat} {w w':World} {a:Option Addr} {len:Nat} {zs:List Int} (h:Bys w w.heap.size a len zs) (hk:bG B m w w'):Bys w' w'.heap.size a len zs:=
 ⟨h.1,h.2.1,fun hl=>by
  obtain ⟨b,off,e,hb,hc⟩:=h.2.2 hl;exact ⟨b,off,e,Nat.lt_of_lt_of_le hb hk.size,fun i hi=>hk.cell (hc i hi)⟩⟩
theorem Cel.kept {B m:Nat} {w w':World} {a:Option Addr} {len:Nat} {vs:List Value} (h:Cel w w.heap.size a len vs) (hk:bG B m w w'):Cel w' w'.heap.size a len vs:=
 ⟨h.1,fun hl=>by
  obtain ⟨b,off,e,hb,hc⟩:=h.2 hl;refine ⟨b,off,e,Nat.lt_of_lt_of_le hb hk.size,fun i hi=>?_⟩;have:=hc i hi;have hi':i<vs.length:=by have:=h.1;omega
  rw [gZg hi'] at this⊢;exact hk.cell this⟩
theorem sC {B m:Nat} {w w':World} {base n:Nat} {e:TypeId} {v:Value} {xs:List Value} (h:w.ownsRow base e 1 v n xs) (hk:bG B m w w') (hm:m<n):w'.ownsRow base e 1 v n xs:=by
 obtain ⟨hl,⟨hv,e0⟩ | ⟨g,cap,cur,hv,hg,hh,hc,hx,hs,ht⟩⟩:=h
 ·omega
 ·obtain ⟨fr',h',e'⟩:=hk.cells _ _ _ _ hh;rcases e' with rfl | e'
  ·exact ⟨hl,.inr ⟨g,cap,cur,hv,hg,h',hc,hx,hs,ht⟩⟩
  ·omega
theorem bG.freeze {B m:Nat} {w:World} {g o n:Nat} {C:Array Value} {t:TypeId} {fr:Nat×Nat} (hg:B≤g) (hC:w.heap[g]?=some (.cells C t fr)) (hm:C.size=m):bG B m w (w.freeze ⟨g,o,none⟩ n):=by
 unfold World.freeze;split
 ·exact bG.refl _ _ _
 ·refine ⟨⟨rfl,rfl,rfl,by simp,fun k hk=>?_⟩,fun k C' t' fr' hk=>?_⟩
  ·simp only [Array.getElem?_modify];rw [if_neg (by omega)]
  ·simp only [Array.getElem?_modify];by_cases hgk:g=k
   ·subst hgk;rw [if_pos rfl,hk];rw [hC] at hk;injection hk with hk;injection hk with h1 h2 h3;subst h1;subst h2;subst h3;obtain ⟨lo,hi⟩:=fr;exact ⟨_,rfl,.inr hm⟩
   ·rw [if_neg hgk];exact ⟨fr',hk,.inl rfl⟩
theorem kg {P:Program} (w:World) (t e:TypeId) (g n c:Nat) (C:Array Value) (fr:Nat×Nat) (hg:w.heap[g]?=some (.cells C e fr)) (ht:P.underlying t=some (.slice e)) (he:P.underlying e=some (.int .u8)) :
 (convert t t (.slice (some ⟨g,0,none⟩) n c)).run P w=.ok (.slice (some ⟨g,0,none⟩) n c) (w.freeze ⟨g,C.size,none⟩ 1):=by
 have hsh:w.shape? g=some (e,C.size):=by
  unfold World.shape?;rw [hg]
 simp [convert,run_underlying ht,run_underlying he,markStringish,hsh]
def Is (v:Value):Value→World→Prop:=fun u _=>u=v
def aU (Fs:List (Value→World→Prop)) (i:Nat):Value→World→Prop:=Fs.getD i fun _ _=>True
end Go.Proofs.YtclgbdfkdbbinaaGreat
