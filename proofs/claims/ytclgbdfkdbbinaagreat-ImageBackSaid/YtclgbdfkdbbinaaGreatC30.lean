/-
  What is proved here: words and contracts, a part of those that the statement rests on (C30).
  Conditions: none but that the arguments are values of their types.
-/
import Derived.Test.YtclgbdfkdbbinaaGreatC5
import Derived.Test.YtclgbdfkdbbinaaGreatC29
import Derived.Test.YtclgbdfkdbbinaaGreatC18
import Derived.Test.YtclgbdfkdbbinaaGreatRows
import Derived.ProofKit
import Derived.OpenShut
import Derived.Deep.Slices
import Derived.Deep.Fields
import Derived.ChangeSame
import Derived.SliceStrings
set_option linter.unusedVariables false
set_option linter.unusedSimpArgs false
set_option maxRecDepth 100000
set_option maxHeartbeats 12800000
namespace Go.Proofs.YtclgbdfkdbbinaaGreat
open Go.RowKit Go.ChangeShapes Go.WideShapes
theorem Fx.one_int:Tryz.prog.cellsOf 3=1:=by kernel_rfl
theorem Fx.wf_int {n:Int} (h:(Lit.int .i64 n).wf=true):-9223372036854775808≤n∧n≤9223372036854775807:=by
 simpa [Lit.wf,IntKind.min,IntKind.max,IntKind.signed,IntKind.bits] using h
theorem Fx.one_uint64:Tryz.prog.cellsOf 24=1:=by kernel_rfl
theorem Fx.wf_uint64 {n:Int} (h:(Lit.int .u64 n).wf=true):0≤n∧n≤18446744073709551615:=by
 simpa [Lit.wf,IntKind.min,IntKind.max,IntKind.signed,IntKind.bits] using h
theorem Fx.one_uint32:Tryz.prog.cellsOf 63=1:=by kernel_rfl
theorem Fx.wf_uint32 {n:Int} (h:(Lit.int .u32 n).wf=true):0≤n∧n≤4294967295:=by
 simpa [Lit.wf,IntKind.min,IntKind.max,IntKind.signed,IntKind.bits] using h
theorem Fx.one_int64:Tryz.prog.cellsOf 2=1:=by kernel_rfl
theorem Fx.wf_int64 {n:Int} (h:(Lit.int .i64 n).wf=true):-9223372036854775808≤n∧n≤9223372036854775807:=by
 simpa [Lit.wf,IntKind.min,IntKind.max,IntKind.signed,IntKind.bits] using h
theorem Fx.many:Tryz.prog.cellsOf 101=5:=by kernel_rfl
theorem Fx.split {cs:List Value} (h:cs.length=5):∃c0 c1 c2 c3 c4,cs=[c0,c1,c2,c3,c4]:=by
 rcases cs with _ | ⟨c0,_ | ⟨c1,_ | ⟨c2,_ | ⟨c3,_ | ⟨c4,_ | ⟨c5,cs⟩⟩⟩⟩⟩⟩;all_goals first | exact ⟨_,_,_,_,_,rfl⟩ | (simp at h;try omega)
section
variable {H:Type} {enc:TypeId×Value→H} {w:World} {base:Nat} {held:Bool}
theorem Fx.read {fuel:Nat} {cs:List Value} {x:DataW H×List MemPlace} (h:DataW.trod enc Tryz.prog w base (fun _=>true) held fuel 101 cs=some x):∃s:Fx,s.Ok w w.heap.size∧cs=s.cells.toList:=by
 obtain ⟨xs,n,-,-,hlen,hxl,hf⟩:=DataW.trod_struct Tryz.underlying101 h;rw [Fx.many] at hlen;obtain ⟨c0,c1,c2,c3,c4,rfl⟩:=Fx.split hlen;have hx:∀j,j<5→∃y,xs[j]?=some y:=fun j hj=>⟨_,List.getElem?_eq_getElem (by rw [hxl];exact hj)⟩
 obtain ⟨y0,e0⟩:=hx 0 (by decide);obtain ⟨n0,g0,-,w0⟩:=DataW.trod_int Tryz.underlying3 ((hf 0 _ rfl).trans e0);have k0:List.take (Tryz.prog.cellsOf 3) (List.drop 0 [c0,c1,c2,c3,c4])=[.int .i64 n0]:=g0;rw [Fx.one_int] at k0;obtain ⟨y1,e1⟩:=hx 1 (by decide);obtain ⟨n1,g1,-,w1⟩:=DataW.trod_int Tryz.underlying24 ((hf 1 _ rfl).trans e1);have k1:List.take (Tryz.prog.cellsOf 24) (List.drop 1 [c0,c1,c2,c3,c4])=[.int .u64 n1]:=g1;rw [Fx.one_uint64] at k1;obtain ⟨y2,e2⟩:=hx 2 (by decide);obtain ⟨n2,g2,-,w2⟩:=DataW.trod_int Tryz.underlying63 ((hf 2 _ rfl).trans e2);have k2:List.take (Tryz.prog.cellsOf 63) (List.drop 2 [c0,c1,c2,c3,c4])=[.int .u32 n2]:=g2;rw [Fx.one_uint32] at k2;obtain ⟨y3,e3⟩:=hx 3 (by decide);obtain ⟨n3,g3,-,w3⟩:=DataW.trod_int Tryz.underlying3 ((hf 3 _ rfl).trans e3);have k3:List.take (Tryz.prog.cellsOf 3) (List.drop 3 [c0,c1,c2,c3,c4])=[.int .i64 n3]:=g3;rw [Fx.one_int] at k3;obtain ⟨y4,e4⟩:=hx 4 (by decide);obtain ⟨n4,g4,-,w4⟩:=DataW.trod_int Tryz.underlying2 ((hf 4 _ rfl).trans e4);have k4:List.take (Tryz.prog.cellsOf 2) (List.drop 4 [c0,c1,c2,c3,c4])=[.int .i64 n4]:=g4;rw [Fx.one_int64] at k4;simp at k0 k1 k2 k3 k4;subst k0 k1 k2 k3 k4;exact ⟨⟨n0,n1,n2,n3,n4⟩,⟨Fx.wf_int w0,Fx.wf_uint64 w1,Fx.wf_uint32 w2,Fx.wf_int w3,Fx.wf_int64 w4⟩,rfl⟩
theorem Fx.list_of {P:Nat→Fx→Prop}:∀(n:Nat),(∀i,i<n→∃s,P i s)→∃L:List Fx,L.length=n∧∀i,i<n→P i (L.getD i Fx.zero)
 | 0,_=>⟨[],rfl,fun i h=>absurd h (by omega)⟩
 | n+1,h=>by
   obtain ⟨L,hl,hL⟩:=Fx.list_of n (fun i hi=>h i (by omega));obtain ⟨s,hs⟩:=h n (by omega);refine ⟨L++[s],by simp [hl],fun i hi=>?_⟩;by_cases e:i=n
   ·subst e;rw [List.getD_eq_getElem?_getD,List.getElem?_append_right (by omega)];simpa [hl] using hs
   ·rw [List.getD_eq_getElem?_getD,List.getElem?_append_left (by omega),←List.getD_eq_getElem?_getD];exact hL i (by omega)
def Fx.Is (w:World) (a:Option Addr) (len cap:Nat) (L:List Fx):Prop:=
 (a=none∧len=0∧cap=0∧L=[])∨
 ∃x,a=some x∧len≤cap∧cap≤maxLen∧L.length=cap∧∀i,i<cap→(L.getD i Fx.zero).Ok w w.heap.size∧∀j,j<5→w.cell? (x.add (i*5+j))=(L.getD i Fx.zero).cells[j]?
theorem Fx.opens {fuel:Nat} {a:Option Addr} {len cap:Nat} {x:DataW H×List MemPlace} (h:DataW.trod enc Tryz.prog w base (fun _=>true) held fuel 45 (Value.slice a len cap).cells.toList=some x):∃L,Fx.Is w a len cap L:=by
 rcases Go.Deep.open_slice Tryz.underlying45 h with ⟨hcs,_⟩ | ⟨a',l,c,m,n,D,Pl,hcs,_,hl,hm,hmm,_,hi⟩
 ·simp [Value.cells] at hcs
  obtain ⟨rfl,rfl,rfl⟩:=hcs;exact ⟨[],.inl ⟨rfl,rfl,rfl,rfl⟩⟩
 ·simp [Value.cells] at hcs
  obtain ⟨rfl,rfl,rfl⟩:=hcs;have hmc:m=cap:=by simpa using hmm
  subst hmc;obtain ⟨L,hL,hLs⟩:=Fx.list_of (P:=fun i s=>s.Ok w w.heap.size∧∀j,j<5→w.cell? (a'.add (i*5+j))=s.cells[j]?) m (fun i him=>by
   obtain ⟨cs',hc,ht⟩:=hi i him;obtain ⟨s,hok,rfl⟩:=Fx.read ht;obtain ⟨_,_,hat⟩:=World.cells?_some hc;rw [Fx.many] at hat;refine ⟨s,hok,fun j hj=>?_⟩;rw [←Go.Deep.add_add,hat j hj];simp)
  exact ⟨L,.inr ⟨a',rfl,hl,hm,hL,hLs⟩⟩
end
theorem Fx.Is.sl {w:World} {a:Option Addr} {len cap:Nat} {L:List Fx} (h:Fx.Is w a len cap L) :
 Fx.Sl w w.heap.size a len (L.take len)∧len≤cap∧(cap:Int)≤9223372036854775807:=by
 rcases h with ⟨rfl,rfl,rfl,rfl⟩ | ⟨⟨b,off,spot⟩,rfl,hl,hm,hL,hc⟩
 ·exact ⟨Fx.Sl.empty _ _ _,Nat.le_refl _,by omega⟩
 ·have hm':(cap:Int)≤9223372036854775807:=by unfold maxLen at hm;omega
  refine ⟨⟨by rw [List.length_take];omega,fun s hs=>?_,fun h0=>?_⟩,hl,hm'⟩
  ·obtain ⟨i,hi,rfl⟩:=List.getElem_of_mem (List.mem_of_mem_take hs);have:=(hc i (by omega)).1
   rwa [List.getD_eq_getElem?_getD,List.getElem?_eq_getElem hi] at this
  ·have h1:w.cell? ((⟨b,off,spot⟩:Addr).add 0)=some (.int .i64 (L.getD 0 Fx.zero).wh):=(hc 0 (by omega)).2 0 (by decide);have hs:spot=none:=by
    have h2:w.cell? ⟨b,off,spot⟩=some (.int .i64 (L.getD 0 Fx.zero).wh):=by simpa [Addr.add] using h1
    exact World.cell?_spot h2
   subst hs;have hlt:b<w.heap.size:=by
    have h2:w.cell? ⟨b,off,none⟩=some (.int .i64 (L.getD 0 Fx.zero).wh):=by simpa [Addr.add] using h1
    exact block_lt h2
   refine ⟨b,off,rfl,hlt,fun i hi=>?_⟩;have h2:=(hc i (by omega)).2;simp only [add_none] at h2;rw [List.getD_eq_getElem?_getD,List.getElem?_take_of_lt hi,←List.getD_eq_getElem?_getD];exact ⟨h2 0 (by decide),h2 1 (by decide),h2 2 (by decide),h2 3 (by decide),h2 4 (by decide)⟩
end Go.Proofs.YtclgbdfkdbbinaaGreat
namespace Go.Proofs.YtclgbdfkdbbinaaGreat
open Go.RowKit Go.ChangeShapes Go.WideShapes Go.ChangeAt
structure SpIn (w:World) (x:Spv) (m:Sp):Prop where
 is:x.Is w w.heap.size m
 nil:SpvNil x
 so:m.so.size≤maxLen
 ns:∀s∈m.nd,s.size≤maxLen
theorem Spv.one_string:Tryz.prog.cellsOf 9=1:=by kernel_rfl
theorem Spv.one_int:Tryz.prog.cellsOf 3=1:=by kernel_rfl
theorem Spv.one_uint64:Tryz.prog.cellsOf 24=1:=by kernel_rfl
theorem Spv.one_bytes:Tryz.prog.cellsOf 22=1:=by kernel_rfl
theorem Spv.one_strs:Tryz.prog.cellsOf 28=1:=by kernel_rfl
theorem Spv.one_defs:Tryz.prog.cellsOf 44=1:=by kernel_rfl
theorem Spv.one_fixes:Tryz.prog.cellsOf 45=1:=by kernel_rfl
theorem Spv.many:Tryz.prog.cellsOf 47=11:=by kernel_rfl
theorem Spv.split {cs:List Value} (h:cs.length=11):∃c0 c1 c2 c3 c4 c5 c6 c7 c8 c9 c10,cs=[c0,c1,c2,c3,c4,c5,c6,c7,c8,c9,c10]:=by
 rcases cs with _ | ⟨c0,_ | ⟨c1,_ | ⟨c2,_ | ⟨c3,_ | ⟨c4,_ | ⟨c5,_ | ⟨c6,_ | ⟨c7,_ | ⟨c8,_ | ⟨c9,_ | ⟨c10,_ | ⟨c11,cs⟩⟩⟩⟩⟩⟩⟩⟩⟩⟩⟩⟩;all_goals first | exact ⟨_,_,_,_,_,_,_,_,_,_,_,rfl⟩ | (simp at h;try omega)
theorem Spv.wf_int {n:Int} (h:(Lit.int .i64 n).wf=true):-9223372036854775808≤n∧n≤9223372036854775807:=by
 simpa [Lit.wf,IntKind.min,IntKind.max,IntKind.signed,IntKind.bits] using h
theorem Spv.wf_u64 {n:Int} (h:(Lit.int .u64 n).wf=true):0≤n∧n≤18446744073709551615:=by
 simpa [Lit.wf,IntKind.min,IntKind.max,IntKind.signed,IntKind.bits] using h
theorem Bs.Ok.sh {w:World} {B:Nat} {b:Bs} (h:b.Ok w B):Bys w B b.a b.n b.zs∧(⟨b.a,b.n,b.c⟩:Sh).Ok∧(b.a=none→b.c=0):=⟨h.bys,⟨h.le,h.max⟩,h.nil⟩
section
variable {H:Type} {enc:TypeId×Value→H} {w:World} {base:Nat} {held:Bool}
theorem Spv.strs {fuel:Nat} {cs:List Value} {x:DataW H×List MemPlace} (h:DataW.trod enc Tryz.prog w base (fun _=>true) held fuel 28 cs=some x):∃(s:Sh) (L:List ByteArray),cs=[.slice s.a s.n s.c]∧Strs w w.heap.size s.a s.n L∧s.Ok∧(s.a=none→s.c=0)∧∀q∈L,q.size≤maxLen:=by
 rcases open_strings Tryz.underlying28 Tryz.underlying9 (by kernel_rfl) h with ⟨hcs,_⟩ | ⟨a,len,cap,zs,hcs,_,hl,hm,hz,_,hcell,hwz⟩
 ·exact ⟨Sh.zero,[],hcs,⟨rfl,fun h=>absurd h (Nat.lt_irrefl _)⟩,Sh.zero_ok,fun _=>rfl,fun q h=>by cases h⟩
 ·have hr:IsStrs w (some a) len cap zs:=.inr ⟨a,rfl,hl,hm,by simpa using hz,hcell,hwz⟩;obtain ⟨h1,h2,h3,h4⟩:=hr.strs;exact ⟨⟨some a,len,cap⟩,zs.take len,hcs,h1,⟨h2,h3⟩,fun e=>(by cases e),fun q hq=>hwz q (List.mem_of_mem_take hq)⟩
theorem Spv.defs {fuel:Nat} {cs:List Value} {x:DataW H×List MemPlace} (h:DataW.trod enc Tryz.prog w base (fun _=>true) held fuel 44 cs=some x):∃(s:Sh) (L:List Df),cs=[.slice s.a s.n s.c]∧Df.Sl w w.heap.size s.a s.n L∧s.Ok:=by
 obtain ⟨a,l,c,hcs⟩:∃a l c,cs=(Value.slice a l c).cells.toList:=by
  rcases Go.Deep.open_slice Tryz.underlying44 h with ⟨hcs,_⟩ | ⟨a',l,c,m,n,D,Pl,hcs,_⟩
  ·exact ⟨none,0,0,hcs⟩
  ·exact ⟨some a',l,c,hcs⟩
 subst hcs;obtain ⟨L,hL⟩:=Df.opens h;obtain ⟨h1,h2,h3⟩:=hL.sl;exact ⟨⟨a,l,c⟩,L.take l,rfl,h1,⟨h2,h3⟩⟩
theorem Spv.fixes {fuel:Nat} {cs:List Value} {x:DataW H×List MemPlace} (h:DataW.trod enc Tryz.prog w base (fun _=>true) held fuel 45 cs=some x):∃(s:Sh) (L:List Fx),cs=[.slice s.a s.n s.c]∧Fx.Sl w w.heap.size s.a s.n L∧s.Ok:=by
 obtain ⟨a,l,c,hcs⟩:∃a l c,cs=(Value.slice a l c).cells.toList:=by
  rcases Go.Deep.open_slice Tryz.underlying45 h with ⟨hcs,_⟩ | ⟨a',l,c,m,n,D,Pl,hcs,_⟩
  ·exact ⟨none,0,0,hcs⟩
  ·exact ⟨some a',l,c,hcs⟩
 subst hcs;obtain ⟨L,hL⟩:=Fx.opens h;obtain ⟨h1,h2,h3⟩:=hL.sl;exact ⟨⟨a,l,c⟩,L.take l,rfl,h1,⟨h2,h3⟩⟩
theorem Spv.read {fuel:Nat} {cs:List Value} {x:DataW H×List MemPlace} (h:DataW.trod enc Tryz.prog w base (fun _=>true) held fuel 47 cs=some x):∃(s:Spv) (m:Sp),SpIn w s m∧cs=s.cells.toList:=by
 obtain ⟨xs,n,-,-,hlen,hxl,hf⟩:=DataW.trod_struct Tryz.underlying47 h;rw [Spv.many] at hlen;obtain ⟨c0,c1,c2,c3,c4,c5,c6,c7,c8,c9,c10,rfl⟩:=Spv.split hlen;have hx:∀j,j<11→∃y,xs[j]?=some y:=fun j hj=>⟨_,List.getElem?_eq_getElem (by rw [hxl];exact hj)⟩
 obtain ⟨y0,e0⟩:=hx 0 (by decide);obtain ⟨n0,g0,-,w0⟩:=DataW.trod_int Tryz.underlying3 ((hf 0 _ rfl).trans e0);have k0:List.take (Tryz.prog.cellsOf 3) (List.drop 0 [c0,c1,c2,c3,c4,c5,c6,c7,c8,c9,c10])=[.int .i64 n0]:=g0;rw [Spv.one_int] at k0;obtain ⟨y1,e1⟩:=hx 1 (by decide);obtain ⟨n1,g1,-,w1⟩:=DataW.trod_string Tryz.underlying9 ((hf 1 _ rfl).trans e1);have k1:List.take (Tryz.prog.cellsOf 9) (List.drop 1 [c0,c1,c2,c3,c4,c5,c6,c7,c8,c9,c10])=[.string n1]:=g1;rw [Spv.one_string] at k1;obtain ⟨y2,e2⟩:=hx 2 (by decide);obtain ⟨n2,L2,g2,w2,o2,i2,z2⟩:=Spv.strs ((hf 2 _ rfl).trans e2);have k2:List.take (Tryz.prog.cellsOf 28) (List.drop 2 [c0,c1,c2,c3,c4,c5,c6,c7,c8,c9,c10])=[.slice n2.a n2.n n2.c]:=g2;rw [Spv.one_strs] at k2;obtain ⟨y3,e3⟩:=hx 3 (by decide);obtain ⟨n3,g3,-,w3⟩:=DataW.trod_int Tryz.underlying24 ((hf 3 _ rfl).trans e3);have k3:List.take (Tryz.prog.cellsOf 24) (List.drop 3 [c0,c1,c2,c3,c4,c5,c6,c7,c8,c9,c10])=[.int .u64 n3]:=g3;rw [Spv.one_uint64] at k3;obtain ⟨y4,e4⟩:=hx 4 (by decide);obtain ⟨n4,w4,g4⟩:=Bs.open Tryz.underlying22 Tryz.underlying5 (by kernel_rfl) ((hf 4 _ rfl).trans e4);have k4:List.take (Tryz.prog.cellsOf 22) (List.drop 4 [c0,c1,c2,c3,c4,c5,c6,c7,c8,c9,c10])=[.slice n4.a n4.n n4.c]:=g4;rw [Spv.one_bytes] at k4;obtain ⟨y5,e5⟩:=hx 5 (by decide);obtain ⟨n5,w5,g5⟩:=Bs.open Tryz.underlying22 Tryz.underlying5 (by kernel_rfl) ((hf 5 _ rfl).trans e5);have k5:List.take (Tryz.prog.cellsOf 22) (List.drop 5 [c0,c1,c2,c3,c4,c5,c6,c7,c8,c9,c10])=[.slice n5.a n5.n n5.c]:=g5;rw [Spv.one_bytes] at k5;obtain ⟨y6,e6⟩:=hx 6 (by decide);obtain ⟨n6,g6,-,w6⟩:=DataW.trod_int Tryz.underlying24 ((hf 6 _ rfl).trans e6);have k6:List.take (Tryz.prog.cellsOf 24) (List.drop 6 [c0,c1,c2,c3,c4,c5,c6,c7,c8,c9,c10])=[.int .u64 n6]:=g6;rw [Spv.one_uint64] at k6;obtain ⟨y7,e7⟩:=hx 7 (by decide);obtain ⟨n7,w7,g7⟩:=Bs.open Tryz.underlying22 Tryz.underlying5 (by kernel_rfl) ((hf 7 _ rfl).trans e7);have k7:List.take (Tryz.prog.cellsOf 22) (List.drop 7 [c0,c1,c2,c3,c4,c5,c6,c7,c8,c9,c10])=[.slice n7.a n7.n n7.c]:=g7;rw [Spv.one_bytes] at k7;obtain ⟨y8,e8⟩:=hx 8 (by decide);obtain ⟨n8,g8,-,w8⟩:=DataW.trod_int Tryz.underlying24 ((hf 8 _ rfl).trans e8);have k8:List.take (Tryz.prog.cellsOf 24) (List.drop 8 [c0,c1,c2,c3,c4,c5,c6,c7,c8,c9,c10])=[.int .u64 n8]:=g8;rw [Spv.one_uint64] at k8;obtain ⟨y9,e9⟩:=hx 9 (by decide);obtain ⟨n9,L9,g9,w9,o9⟩:=Spv.defs ((hf 9 _ rfl).trans e9);have k9:List.take (Tryz.prog.cellsOf 44) (List.drop 9 [c0,c1,c2,c3,c4,c5,c6,c7,c8,c9,c10])=[.slice n9.a n9.n n9.c]:=g9;rw [Spv.one_defs] at k9;obtain ⟨y10,e10⟩:=hx 10 (by decide);obtain ⟨n10,L10,g10,w10,o10⟩:=Spv.fixes ((hf 10 _ rfl).trans e10);have k10:List.take (Tryz.prog.cellsOf 45) (List.drop 10 [c0,c1,c2,c3,c4,c5,c6,c7,c8,c9,c10])=[.slice n10.a n10.n n10.c]:=g10;rw [Spv.one_fixes] at k10;simp at k0 k1 k2 k3 k4 k5 k6 k7 k8 k9 k10;subst k0 k1 k2 k3 k4 k5 k6 k7 k8 k9 k10;obtain ⟨b4,o4,i4⟩:=w4.sh;obtain ⟨b5,o5,i5⟩:=w5.sh;obtain ⟨b7,o7,i7⟩:=w7.sh;exact ⟨⟨n0,n1,n2,n3,⟨n4.a,n4.n,n4.c⟩,⟨n5.a,n5.n,n5.c⟩,n6,⟨n7.a,n7.n,n7.c⟩,n8,n9,n10⟩,⟨n0,n1,L2,n3,n4.zs,n5.zs,n6,n7.zs,n8,L9,L10⟩,
  ⟨⟨rfl,rfl,w2,rfl,b4,b5,rfl,b7,rfl,w9,w10,o2,o4,o5,o7,o9,o10,Spv.wf_int w0,Spv.wf_u64 w3,Spv.wf_u64 w6,Spv.wf_u64 w8⟩,⟨i2,i4,i5,i7⟩,w1,z2⟩,rfl⟩
theorem Spv.open1 {fuel:Nat} {cs:Array Value} {x:DataW H×List MemPlace} (h:DataW.trod enc Tryz.prog w base (fun _=>true) held fuel 47 (Value.agg cs).cells.toList=some x):∃(s:Spv) (m:Sp),SpIn w s m∧cs=s.cells:=by
 obtain ⟨s,m,hok,hs⟩:=Spv.read h;refine ⟨s,m,hok,?_⟩;apply Array.ext'
 simpa [Value.cells] using hs
end
end Go.Proofs.YtclgbdfkdbbinaaGreat
namespace Go.Proofs.YtclgbdfkdbbinaaGreat
open Go.RowKit
theorem by_app {a b:List Int} (h1:∀n∈a,0≤n∧n≤255) (h2:∀n∈b,0≤n∧n≤255):∀n∈a++b,0≤n∧n≤255:=by
 intro n hn;rcases List.mem_append.1 hn with h | h
 ·exact h1 n h
 ·exact h2 n h
theorem by_flat {α:Type} {L:List α} {f:α→List Int} (h:∀s∈L,∀n∈f s,0≤n∧n≤255):∀n∈L.flatMap f,0≤n∧n≤255:=by
 intro n hn;obtain ⟨s,hs,hm⟩:=List.mem_flatMap.1 hn;exact h s hs n hm
theorem by_rep (k:Nat):∀n∈List.replicate k (0:Int),0≤n∧n≤255:=fun n hn=>by rw [List.eq_of_mem_replicate hn];decide
theorem by_pad {a:List Int} (h:∀n∈a,0≤n∧n≤255) (k:Nat):∀n∈padB a k,0≤n∧n≤255:=by unfold padB;exact by_app h (by_rep _)
theorem by_if {c:Prop} [Decidable c] {a b:List Int} (h1:∀n∈a,0≤n∧n≤255) (h2:∀n∈b,0≤n∧n≤255):∀n∈(if c then a else b),0≤n∧n≤255:=by split<;>assumption
theorem by_nil:∀n∈([]:List Int),0≤n∧n≤255:=fun n h=>by cases h
theorem by_sym (m:Sp) (d:Df) (p:Int):∀n∈encY (symOf m d p),0≤n∧n≤255:=by
 intro n hn;simp only [encY,List.mem_append,List.mem_cons,List.not_mem_nil,or_false] at hn;rcases hn with h1 | (rfl | rfl) | h1 | h1 | h1
 ·exact digs_bd _ _ n h1
 ·unfold symOf;simp only;repeat' split;all_goals omega
 ·unfold symOf;simp only;omega
 ·exact digs_bd _ _ n h1
 ·exact digs_bd _ _ n h1
 ·exact digs_bd _ _ n h1
theorem file_by {m:Sp} (h1:∀n∈m.co,0≤n∧n≤255) (h2:∀n∈m.da,0≤n∧n≤255) (h3:∀n∈m.tl,0≤n∧n≤255):∀n∈fileB m,0≤n∧n≤255:=by
 have a1:∀n∈frontB m,0≤n∧n≤255:=by
  unfold frontB;exact by_app (by_app (enc_bd _ _ _ _) (by_flat fun s _=>encS_bd s)) (entsB_bd9 _ _)
 have a2:∀n∈headB m,0≤n∧n≤255:=by unfold headB tabB;exact by_pad (by_app a1 (tab_bd _ _)) _
 have a3:∀n∈symsP m,0≤n∧n≤255:=by
  unfold symsP symsB;refine by_app a2 (by_app (by_if (by_rep _) by_nil) (by_flat fun s hs=>?_));obtain ⟨i,_,rfl⟩:=List.mem_map.1 hs;exact by_sym _ _ _
 have a4:∀n∈relsP m,0≤n∧n≤255:=by unfold relsP;exact by_app a3 (by_flat fun s _=>encL_bd s)
 have a5:∀n∈codeP m,0≤n∧n≤255:=by unfold codeP;exact by_if (by_app (by_pad a4 _) h1) a4
 have a6:∀n∈dataP m,0≤n∧n≤255:=by unfold dataP;exact by_if (by_app (by_pad a5 _) h2) a5
 unfold fileB;exact by_if (by_app a6 (by_app (by_rep _) h3)) a6
theorem build_by {m:Sp} (h1:∀n∈m.co,0≤n∧n≤255) (h2:∀n∈m.da,0≤n∧n≤255) (h3:∀n∈m.tl,0≤n∧n≤255):∀n∈(buildI m).2,0≤n∧n≤255:=by
 unfold buildI;repeat' split
 all_goals first | exact by_nil | exact file_by h1 h2 h3
theorem Spv.Is.by {w:World} {B:Nat} {x:Spv} {m:Sp} (h:x.Is w B m):∀n∈(buildI m).2,0≤n∧n≤255:=build_by h.co.2.1 h.da.2.1 h.tl.2.1
theorem build_max (m:Sp):(buildI m).2.length≤65536:=by
 unfold buildI;repeat' split
 all_goals first | exact Nat.zero_le _ | (show (fileB m).length≤65536;omega)
theorem ORow.own {base:Nat} {w:World} {v:Value} {zs:List Int} (h:w.ownsRow base 5 1 v zs.length (zs.map (Value.int .u8))) (hz:∀n∈zs,0≤n∧n≤255):∃a c,v=.slice a zs.length c∧zs.length≤c∧(c:Int)≤9223372036854775807∧(a=none→c=0)∧Bys w w.heap.size a zs.length zs:=by
 rcases h.2 with ⟨hv,e0⟩ | ⟨g,c,cur,hv,_,_,h1,h2,_⟩
 ·subst hv;exact ⟨none,0,by rw [e0],by omega,by omega,fun _=>rfl,by rw [e0] at h⊢;exact Bys.own hz h⟩
 ·subst hv;exact ⟨_,c,rfl,h1,by unfold maxLen at h2;omega,fun e=>(by cases e),Bys.own hz h⟩
theorem Few.l {m:Sp} (h:Few m):m.nd.length≤1000∧m.df.length≤1000∧m.fx.length≤1000∧m.co.length≤1000000∧m.da.length≤1000000∧m.tl.length≤1000000:=by
 have:=h.co;have:=h.da;have:=h.tl;have:=h.df;have:=h.fx;have:=h.nd;refine ⟨?_,?_,?_,?_,?_,?_⟩<;>omega
theorem ibuild_few {B:Nat} {x:Spv} {m:Sp} {w:World} (h:x.Is w B m) (hB:B≤w.heap.size) (hn:SpvNil x) (hf:Few m) (n1:m.so.size≤maxLen) (n2:∀s∈m.nd,s.size≤maxLen) :
 Calls Tryz.prog 15 #[x.val] w (BuildOwn (buildI m) w):=by
 obtain ⟨l1,l2,l3,l4,l5,l6⟩:=hf.l;exact build9_any B x m w h hB hn.nd l1 l2 l3 l4 l5 l6 n1 n2
def BackP (m:Sp) (Z:Int×List Int):Prop:=(Z.1≠0→Z.2=[])∧(Z.1=0→0<Z.2.length∧((parseI Z.2).1=0→(parseI Z.2).2.so=m.so∧(parseI Z.2).2.nd=m.nd∧(0<m.df.length→(parseI Z.2).2.nm=.empty :: m.df.map (·.nm))∧(parseI Z.2).2.zs=Z.2))
theorem build_split {m:Sp} (h:(buildI m).1=0):mayI m=0∧cleanB (listB m)=true∧(tabB m).length≤65536∧(fileB m).length≤65536∧(buildI m).2=fileB m:=by
 unfold buildI at h⊢;by_cases h1:mayI m≠0
 ·rw [if_pos h1] at h;exact absurd h h1
 rw [if_neg h1] at h⊢;by_cases h2:cleanB (listB m)=false
 ·rw [if_pos h2] at h;cases h
 rw [if_neg h2] at h⊢;by_cases h3:65536<(tabB m).length
 ·rw [if_pos h3] at h;cases h
 rw [if_neg h3] at h⊢;by_cases h4:65536<(fileB m).length
 ·rw [if_pos h4] at h;cases h
 rw [if_neg h4];exact ⟨by omega,by simpa using h2,by omega,by omega,rfl⟩
theorem build_none {m:Sp} (h:(buildI m).1≠0):(buildI m).2=[]:=by
 unfold buildI at h⊢;by_cases h1:mayI m≠0
 ·rw [if_pos h1]
 rw [if_neg h1] at h⊢;by_cases h2:cleanB (listB m)=false
 ·rw [if_pos h2]
 rw [if_neg h2] at h⊢;by_cases h3:65536<(tabB m).length
 ·rw [if_pos h3]
 rw [if_neg h3] at h⊢;by_cases h4:65536<(fileB m).length
 ·rw [if_pos h4]
 rw [if_neg h4] at h;exact absurd rfl h
theorem Spv.Is.back {w:World} {B:Nat} {x:Spv} {m:Sp} (h:x.Is w B m) (hf:Few m):BackP m (buildI m):=by
 refine ⟨build_none,fun h0=>?_⟩;obtain ⟨h1,h2,h3,h4,h5⟩:=build_split h0;obtain ⟨hv,hs⟩:=may_ok h1;obtain ⟨l1,l2,l3,_,_,_⟩:=hf.l;have hm:=h.may hv hs h3 l1 l2 l3;have hc:=(cleanB_iff (listB m)).1 h2;rw [h5];refine ⟨?_,fun hp=>?_⟩
 ·obtain ⟨R,hR⟩:=file_front m;rw [hR,List.length_append,enc_len];omega
 ·obtain ⟨a,b,c,d,e⟩:=back_names hm hc hp;exact ⟨a,b,c,d⟩
end Go.Proofs.YtclgbdfkdbbinaaGreat
