/-
  What is proved here: words and contracts, a part of those that the statement rests on (B14).
  Conditions: none but that the arguments are values of their types.
-/
import Derived.Test.YtclgbdfkdbbinaaGreatB0
import Derived.Test.YtclgbdfkdbbinaaGreatB13
import Derived.Test.YtclgbdfkdbbinaaGreatB5
import Derived.Test.YtclgbdfkdbbinaaGreatB4
import Derived.Maps.Own
import Derived.Maps.OwnSet
import Derived.Maps.Views
set_option linter.unusedVariables false
set_option linter.unusedSimpArgs false
set_option maxRecDepth 100000
set_option maxHeartbeats 12800000
namespace Go.Proofs.YtclgbdfkdbbinaaGreat
open Go.RowKit Go.WideMaps Go.Maps
theorem kt:Keyed Tryz.prog 24:=int_keyed Tryz.underlying24
theorem ng (w:World):(zeroValue 190).run Tryz.prog w=.ok (.pointer none) w:=by kernel_rfl
def ke (t:Int):Lit:=.int .u64 t
theorem kw {t:Int} (h:0≤t∧t≤18446744073709551615):keyOf Tryz.prog 24 (.int .u64 t)=some (ke t):=
 keyOf_int_mk Tryz.underlying24 (by simp [Lit.wf,IntKind.min,IntKind.max,IntKind.signed,IntKind.bits];omega)
theorem mE (t:Int):WideAt.IsKeyLit (ke t):=by simp [ke,WideAt.IsKeyLit]
theorem qt {s t:Int} (h:s≠t):ke s≠ke t:=fun e=>by
 unfold ke at e;injection e with _ e;exact h e
def fL (X:Nat):Value→Option (DataW Unit×List MemPlace)
 | .pointer none=>some (.lit (.bool false),[])
 | .pointer (some ⟨b,o,none⟩)=>if b=X then some (.lit (.int .u64 o),[]) else none
 | _=>none
theorem iH (X:Nat):fL X (.pointer none)=some (.lit (.bool false),[]):=rfl
theorem qN (X o:Nat):fL X (.pointer (some ⟨X,o,none⟩))=some (.lit (.int .u64 o),[]):=by simp [fL]
theorem gT {X:Nat} {v:Value} {ps:List MemPlace} (h:fL X v=some (.lit (.bool false),ps)):v=.pointer none:=by
 unfold fL at h;split at h
 ·rfl
 ·split at h
  ·injection h with h;injection h with h _;injection h with h;cases h
  ·cases h
 ·cases h
theorem ir {X:Nat} {v:Value} {ps:List MemPlace} {o:Nat} (h:fL X v=some (.lit (.int .u64 o),ps)):v=.pointer (some ⟨X,o,none⟩):=by
 unfold fL at h;split at h
 ·injection h with h;injection h with h _;injection h with h;cases h
 ·split at h
  ·rename_i b o' hb;subst hb;injection h with h;injection h with h _;injection h with h;injection h with _ h;have:o'=o:=by omega
   subst this;rfl
  ·cases h
 ·cases h
def kN (D:DataW Unit) (S:Nat→Bool):Prop:=
 ∀t:Int,Maps.has D (ke t)=(match fD t with | some i=>S i | none=>false)∧∀i,fD t=some i→S i=true→∀z,D.atKey (ke t) z=.lit (.int .u64 ((i+1:Nat):Int))
theorem oT {S:Nat→Bool} (h:∀i,i<7→S i=false):kN (.map []) S:=by
 intro t;cases hi:fD t with
 | none=>exact ⟨rfl,fun i h=>by cases h⟩
 | some i=>
   have:=h i (dU hi).1;exact ⟨by simp only [this];rfl,fun j hj hs=>by injection hj with hj;subst hj;rw [this] at hs;cases hs⟩
theorem qO {D:DataW Unit} {S S':Nat→Bool} {i:Nat} (hi:i<7) (hm:IsMap D) (h:kN D S) (h1:S' i=true) (h2:∀j,j<7→j≠i→S' j=S j):kN (D.put (ke (bo.getD i 0)) (.lit (.int .u64 ((i+1:Nat):Int)))) S':=by
 intro t;by_cases ht:t=bo.getD i 0
 ·subst ht;rw [lw hi];refine ⟨by simp only [h1];rw [has_put_same hm (mE _)],fun j hj hs z=>?_⟩;injection hj with hj;subst hj;exact atKey_put_same hm (mE _) _ _
 ·have hne:=qt ht;obtain ⟨q1,q2⟩:=h t;have hji:∀j,fD t=some j→j≠i∧j<7:=fun j hj=>⟨fun e=>ht (by rw [←e];exact (dU hj).2.symm),(dU hj).1⟩
  refine ⟨?_,fun j hj hs z=>?_⟩
  ·rw [has_put_other hne,q1];cases hj:fD t with
   | none=>rfl
   | some j=>obtain ⟨r1,r2⟩:=hji j hj;simp only;rw [h2 j r2 r1]
  ·obtain ⟨r1,r2⟩:=hji j hj;rw [atKey_put_other hne];exact q2 j hj (by rw [←h2 j r2 r1];exact hs) z
def vA (D:DataW Unit) (seen:List Bool):Prop:=
 ∀t:Int,Maps.has D (ke t)=(fD t).isSome∧∀i,fD t=some i→∀z,D.atKey (ke t) z=if seen.getD i false=true then .lit (.bool false) else .lit (.int .u64 ((i+1:Nat):Int))
theorem rF {D:DataW Unit} {S:Nat→Bool} (h:kN D S) (hs:∀i,i<7→S i=true):vA D dq.seen:=by
 intro t;obtain ⟨q1,q2⟩:=h t;refine ⟨?_,fun i hi z=>?_⟩
 ·rw [q1];cases hi:fD t with
  | none=>rfl
  | some i=>exact hs i (dU hi).1
 ·have hi7:=(dU hi).1;have hf:dq.seen.getD i false=false:=by
   have:i=0∨i=1∨i=2∨i=3∨i=4∨i=5∨i=6:=by omega
   rcases this with rfl | rfl | rfl | rfl | rfl | rfl | rfl<;>rfl
  rw [hf,if_neg (by decide)];exact q2 i hi (hs i hi7) z
theorem rS {D:DataW Unit} {seen:List Bool} {i:Nat} (hi:i<7) (hm:IsMap D) (hl:seen.length=7) (h:vA D seen):vA (D.put (ke (bo.getD i 0)) (.lit (.bool false))) (seen.set i true):=by
 intro t;by_cases ht:t=bo.getD i 0
 ·subst ht;rw [lw hi];refine ⟨by rw [has_put_same hm (mE _)];rfl,fun j hj z=>?_⟩;injection hj with hj;subst hj;rw [atKey_put_same hm (mE _)];have:(seen.set i true).getD i false=true:=by rw [gZe,List.getElem?_set_self (by omega)];rfl
  rw [if_pos this]
 ·have hne:=qt ht;obtain ⟨q1,q2⟩:=h t;refine ⟨by rw [has_put_other hne,q1],fun j hj z=>?_⟩;have hji:i≠j:=fun e=>ht (by rw [e];exact (dU hj).2.symm);rw [atKey_put_other hne,q2 j hj z];have:(seen.set i true).getD j false=seen.getD j false:=by rw [gZe,List.getElem?_set_ne hji,gZe]
  rw [this]
def aY (w:World) (g X n:Nat) (seen:List Bool):Prop:=∃D,w.ownsMap Tryz.prog 24 (fL X) g n D∧vA D seen
theorem aY.lt {w:World} {g X n:Nat} {seen:List Bool} (h:aY w g X n seen):g<w.heap.size:=by
 obtain ⟨D,h,_⟩:=h;exact h.lt
theorem aY.look {w:World} {g X n:Nat} {seen:List Bool} (h:aY w g X n seen) {t:Int} (ht:0≤t∧t≤18446744073709551615) :
 (fD t=none→∃v,(Instr.lookup 151 (.map (some g)) (.int .u64 t) true).run Tryz.prog w=.ok (.tuple #[v,.bool false]) w)∧
 (∀i,fD t=some i→(Instr.lookup 151 (.map (some g)) (.int .u64 t) true).run Tryz.prog w=.ok (.tuple #[if seen.getD i false=true then .pointer none else .pointer (some ⟨X,i+1,none⟩),.bool true]) w):=by
 obtain ⟨D,ho,hD⟩:=h;obtain ⟨v,ps,hr,hv⟩:=ho.look_ok kt Tryz.underlying151 (ng w) (iH X) (kw ht);obtain ⟨q1,q2⟩:=hD t;rw [q1] at hr;refine ⟨fun hi=>⟨v,by rw [hr,hi];rfl⟩,fun i hi=>?_⟩;rw [hr,hi];rw [q2 i hi] at hv;by_cases hs:seen.getD i false=true
 ·rw [if_pos hs] at hv⊢;rw [gT hv];rfl
 ·rw [if_neg hs] at hv⊢;rw [ir hv];rfl
theorem aY.look1 {w:World} {g X n:Nat} {seen:List Bool} (h:aY w g X n seen) {i:Nat} (hi:i<7) :
 (Instr.lookup 151 (.map (some g)) (.int .u64 (bo.getD i 0)) false).run Tryz.prog w=.ok (if seen.getD i false=true then .pointer none else .pointer (some ⟨X,i+1,none⟩)) w:=by
 obtain ⟨D,ho,hD⟩:=h;have ht:=hH hi;obtain ⟨v,ps,hr,hv⟩:=ho.lookup kt Tryz.underlying151 (ng w) (iH X) (kw ht.2.2);obtain ⟨q1,q2⟩:=hD (bo.getD i 0);rw [hr];rw [q2 i (lw hi)] at hv;by_cases hs:seen.getD i false=true
 ·rw [if_pos hs] at hv⊢;rw [gT hv]
 ·rw [if_neg hs] at hv⊢;rw [ir hv]
theorem aY.mark {w:World} {g X n:Nat} {seen:List Bool} (h:aY w g X n seen) (hn:n<maxLen) {i:Nat} (hi:i<7) (hl:seen.length=7) :
 ∃w',(Instr.mapUpdate 151 (.map (some g)) (.int .u64 (bo.getD i 0)) (.pointer none)).run Tryz.prog w=.ok () w'∧aY w' g X (n+1) (seen.set i true)∧w.grownBy w' (some g):=by
 obtain ⟨D,ho,hD⟩:=h;have ht:=hH hi;obtain ⟨w',hr,ho',hg⟩:=ho.update kt Tryz.underlying151 hn (kw ht.2.2) (iH X);exact ⟨w',hr,⟨_,ho',rS hi ho.isMap hl hD⟩,hg⟩
def fC (i:Nat):Nat:=([24,4,20,8,28,12,16]:List Nat).getD i 0
def mz (L:Nat→Bool):Nat:=(L 24).toNat+(L 4).toNat+(L 20).toNat+(L 8).toNat+(L 28).toNat+(L 12).toNat+(L 16).toNat
theorem qh (L:Nat→Bool):mz L≤7:=by
 unfold mz;have:=fun b:Bool=>Bool.toNat_le b;have h1:=this (L 24);have h2:=this (L 4);have h3:=this (L 20);have h4:=this (L 8);have h5:=this (L 28);have h6:=this (L 12);have h7:=this (L 16);omega
def JM (g X:Nat) (W0:World) (L:Nat→Bool) (w:World):Prop:=
 (L 0=false→w=W0∧∀i,i<7→L (fC i)=false)∧(L 0=true→∃D,w.ownsMap Tryz.prog 24 (fL X) g (mz L) D∧kN D (fun i=>L (fC i))∧Below g W0 w)
theorem tm {p:Nat→Prop} (h:∀i,i<7→p i):p 0∧p 1∧p 2∧p 3∧p 4∧p 5∧p 6:=
 ⟨h 0 dZc,h 1 dZc,h 2 dZc,h 3 dZc,h 4 dZc,h 5 dZc,h 6 dZc⟩
theorem nw {D:DataW Unit} {S S':Nat→Bool} (h:kN D S) (hs:∀i,i<7→S i=S' i):kN D S':=by
 intro t;obtain ⟨q1,q2⟩:=h t;refine ⟨?_,fun i hi h1 z=>q2 i hi (by rw [hs i (dU hi).1];exact h1) z⟩;rw [q1];cases hi:fD t with
 | none=>rfl
 | some i=>simp only;rw [hs i (dU hi).1]
theorem JM.congr {g X:Nat} {W0 w:World} {L L':Nat→Bool} (h:JM g X W0 L w) (h0:L 0=L' 0) (hi:∀i,i<7→L (fC i)=L' (fC i)):JM g X W0 L' w:=by
 obtain ⟨p1,p2,p3,p4,p5,p6,p7⟩:=tm (p:=fun i=>L (fC i)=L' (fC i)) hi;simp only [fC,List.getD_cons_zero,List.getD_cons_succ] at p1 p2 p3 p4 p5 p6 p7;have hc:mz L=mz L':=by unfold mz;rw [p1,p2,p3,p4,p5,p6,p7]
 refine ⟨fun e=>?_,fun e=>?_⟩
 ·obtain ⟨r1,r2⟩:=h.1 (h0.trans e);exact ⟨r1,fun i h7=>by rw [←hi i h7];exact r2 i h7⟩
 ·obtain ⟨D,r1,r2,r3⟩:=h.2 (h0.trans e);exact ⟨D,hc▸r1,nw r2 hi,r3⟩
theorem JM.pure {g X:Nat} {W0 w:World} {L:Nat→Bool} (h:JM g X W0 L w) {j:Nat} (h0:j≠0) (hj:∀i,i<7→fC i≠j):JM g X W0 (upd L j) w:=
 h.congr (by rw [aE _ (Ne.symm h0)]) fun i hi=>by rw [aE _ (hj i hi)]
theorem JM.make {g X:Nat} {W0 w:World} {L:Nat→Bool} (h:JM g X W0 L w) (hg:W0.heap.size=g) (h0:L 0=false):.map (some w.heap.size)=Value.map (some g)∧JM g X W0 (upd L 0) (w.alloc (.map #[] 0)):=by
 obtain ⟨rfl,hi⟩:=h.1 h0;subst hg;refine ⟨rfl,⟨fun e=>(by rw [cZ] at e;cases e),fun _=>⟨.map [],?_,?_,(Below.refl _ _).alloc (lZr _) _⟩⟩⟩
 ·exact (World.ownsMap_made w Tryz.prog 24 (fL X)).mono (Nat.zero_le _)
 ·refine oT fun i h7=>?_;have hne:fC i≠0:=by
   have:i=0∨i=1∨i=2∨i=3∨i=4∨i=5∨i=6:=by omega
   rcases this with rfl | rfl | rfl | rfl | rfl | rfl | rfl<;>decide
  rw [aE _ hne];exact hi i h7
theorem uv {i j:Nat} (hi:i<7) (hj:j<7) (h:fC i=fC j):i=j:=by
 have h1:i=0∨i=1∨i=2∨i=3∨i=4∨i=5∨i=6:=by omega
 have h2:j=0∨j=1∨j=2∨j=3∨j=4∨j=5∨j=6:=by omega
 rcases h1 with rfl | rfl | rfl | rfl | rfl | rfl | rfl<;>rcases h2 with rfl | rfl | rfl | rfl | rfl | rfl | rfl<;>first | rfl | (exact absurd h dZc)
theorem sM {L:Nat→Bool} {i:Nat} (hi:i<7) (h:L (fC i)=false):mz (upd L (fC i))=mz L+1:=by
 have:i=0∨i=1∨i=2∨i=3∨i=4∨i=5∨i=6:=by omega
 rcases this with rfl | rfl | rfl | rfl | rfl | rfl | rfl;all_goals simp only [fC,List.getD_cons_zero,List.getD_cons_succ] at h⊢
 all_goals simp [mz,upd,h]
 all_goals omega
theorem JM.insert {g X:Nat} {W0 w:World} {L:Nat→Bool} (h:JM g X W0 L w) (hW:W0.heap.size=g) {i:Nat} (hi:i<7) (h0:L 0=true) (hL:L (fC i)=false) :
 ∃w',(Instr.mapUpdate 151 (.map (some g)) (.int .u64 (bo.getD i 0)) (.pointer (some ⟨X,i+1,none⟩))).run Tryz.prog w=.ok () w'∧JM g X W0 (upd L (fC i)) w':=by
 obtain ⟨D,ho,hD,hb⟩:=h.2 h0;have ht:=hH hi;have hc:=qh L;obtain ⟨w',hr,ho',hg⟩:=ho.update kt Tryz.underlying151 (by unfold maxLen;omega) (kw ht.2.2) (qN X (i+1));have hlt:=ho.lt;have hgs:g≤w.heap.size:=by omega
 have hne:(0:Nat)≠fC i:=by
  have:i=0∨i=1∨i=2∨i=3∨i=4∨i=5∨i=6:=by omega
  rcases this with rfl | rfl | rfl | rfl | rfl | rfl | rfl<;>decide
 refine ⟨w',hr,⟨fun e=>(by rw [aE _ hne,h0] at e;cases e),fun _=>⟨_,(sM hi hL)▸ho',?_,hb.grown hg hgs (fun q e=>by injection e with e;omega)⟩⟩⟩;exact qO hi ho.isMap hD (cZ _ _) fun j hj hji=>aE _ fun e=>hji (uv hj hi e)
theorem dg {P:Program} {o:Oper} {a:Act} {w w':World} {post:Value→World→Prop} (t:TypeId) (m k v:Operand) (hop:o.op=Op.insert t m k v) (M K V:Value) (hm:a.eval m=M) (hk:a.eval k=K) (hv:a.eval v=V)
 (hr:(Instr.mapUpdate t M K V).run P w=.ok () w') (h:post undef w'):cf P o a w post:=by
 intro K' Q hK;have:=hK _ _ h;unfold Oper.wp Oper.upon;simpa [execOp,hop,hm,hk,hv,hr,Result.andThen] using this
theorem mO {P:Program} {o:Oper} {a:Act} {w:World} {post:Value→World→Prop} (t:TypeId) (hop:o.op=Op.makeMap t none) (h:post (.map (some w.heap.size)) (w.alloc (.map #[] 0))):cf P o a w post:=by
 intro K' Q hK;have:=hK _ _ h;unfold Oper.wp Oper.upon;simpa [execOp,hop,Result.andThen,run_makeMap] using this
theorem fu {P:Program} {o:Oper} {a:Act} {w:World} {post:Value→World→Prop} (x:Operand) (p:Addr) (hop:o.op=Op.nilCheck x) (hx:a.eval x=.pointer (some p)) (h:post (.pointer (some p)) w):cf P o a w post:=by
 intro K' Q hK;have:=hK _ _ h;unfold Oper.wp Oper.upon;simpa [execOp,hop,hx,Result.andThen] using this
theorem aw (n:Nat) (y:Nat→Value) (d:List Deferred) {t:Nat} (h:t<n):(⟨af n y,d⟩:Act).eval (.tmp t)=y t:=by
 simp [Act.eval,aS _ _ _ h]
theorem oM (y:Nat→Value):af 26 y=#[y 0,y 1,y 2,y 3,y 4,y 5,y 6,y 7,y 8,y 9,y 10,y 11,y 12,y 13,y 14,y 15,y 16,y 17,y 18,y 19,y 20,y 21,y 22,y 23,y 24,y 25]:=rfl
theorem bb {j:Nat} (h:j≠24∧j≠4∧j≠20∧j≠8∧j≠28∧j≠12∧j≠16):∀i,i<7→fC i≠j:=by
 intro i hi;have:i=0∨i=1∨i=2∨i=3∨i=4∨i=5∨i=6:=by omega
 rcases this with rfl | rfl | rfl | rfl | rfl | rfl | rfl<;>simp only [fC,List.getD_cons_zero,List.getD_cons_succ]<;>omega
theorem qn {i:Nat} (hi:i<7):fC i<31:=by
 have:i=0∨i=1∨i=2∨i=3∨i=4∨i=5∨i=6:=by omega
 rcases this with rfl | rfl | rfl | rfl | rfl | rfl | rfl<;>decide
theorem vg {L L':Nat→Bool} (h:∀i,i<31→L i=L' i):∀i,i<7→L (fC i)=L' (fC i):=fun i hi=>h _ (qn hi)
theorem mk (X:Nat) (w:World) :
 Calls Tryz.prog 96 #[.pointer (some ⟨X,0,none⟩)] w fun r w'=>∃g,r=.returned (.map (some g))∧w.heap.size≤g∧aY w' g X 7 dq.seen∧Below w.heap.size w w':=by
 go_enter Tryz.func96,Tryz.ntmps96
 go_wp2;refine lH (by kernel_rfl) 26 rfl [3,4,5,6,104,7,8,9,108,10,11,12,112,13,14,15,116,16,17,18,120,19,20,21,124,22,23,24,128,25,2] [.map (some w.heap.size),.pointer (some ⟨X,0,none⟩),.pointer (some ⟨X,0,none⟩),.pointer (some ⟨X,2,none⟩),undef,.pointer (some ⟨X,0,none⟩),.pointer (some ⟨X,0,none⟩),.pointer (some ⟨X,4,none⟩),undef,.pointer (some ⟨X,0,none⟩),.pointer (some ⟨X,0,none⟩),.pointer (some ⟨X,6,none⟩),undef,.pointer (some ⟨X,0,none⟩),.pointer (some ⟨X,0,none⟩),.pointer (some ⟨X,7,none⟩),undef,.pointer (some ⟨X,0,none⟩),.pointer (some ⟨X,0,none⟩),.pointer (some ⟨X,3,none⟩),undef,.pointer (some ⟨X,0,none⟩),.pointer (some ⟨X,0,none⟩),.pointer (some ⟨X,1,none⟩),undef,.pointer (some ⟨X,0,none⟩),.pointer (some ⟨X,0,none⟩),.pointer (some ⟨X,5,none⟩),undef,.map (some w.heap.size),.map (some w.heap.size)] (JM w.heap.size X w.drew) ?hj (by kernel_rfl) ?start ?steps ?fin;case hj=>exact fun L L' w' h hJ=>hJ.congr (h 0 dZc) (vg h)
 case start=>exact ⟨fun _=>⟨rfl,fun _ _=>rfl⟩,fun h=>by cases h⟩
 case steps=>
  refine ⟨?_,?_,?_,?_,?_,?_,?_,?_,?_,?_,?_,?_,?_,?_,?_,?_,?_,?_,?_,?_,?_,?_,?_,?_,?_,?_,?_,?_,?_,?_,?_,trivial⟩;all_goals intro L y w2 hJ hL hy hp
  ·exact mO 151 rfl ⟨fun _=>(hJ.make rfl hL).1,(hJ.make rfl hL).2⟩
  ·exact dj (.tmp 0) (.inl rfl) ⟨fun _=>(aw 26 y _ dZc).trans (hy 0 dZc),hJ.pure dZc (bb dZc)⟩
  ·exact fu (.tmp 4) ⟨X,0,none⟩ rfl ((aw 26 y _ dZc).trans ((hp 1 dZc).2 dZc)) ⟨fun _=>rfl,hJ.pure dZc (bb dZc)⟩
  ·have e1:y 5=.pointer (some ⟨X,0,none⟩):=(hp 2 dZc).2 dZc;have hJ2:=hZz (hJ.pure dZc (bb dZc):JM w.heap.size X w.drew (upd L 3) w2);intro K Q hK;simp only [oM] at hK⊢;clear hy hp hJ;rw [e1] at hK⊢;go_simp;exact hK _ _ ⟨fun _=>rfl,hJ2.out⟩
  ·obtain ⟨w3,hr,hJ3⟩:=hJ.insert rfl (i:=1) dZc (hp 0 dZc).1 hL;exact dg _ (.tmp 3) (.const (.int .u64 5)) (.tmp 6) rfl _ _ _ ((aw 26 y _ dZc).trans ((hp 0 dZc).2 dZc)) rfl ((aw 26 y _ dZc).trans ((hp 3 dZc).2 dZc)) hr ⟨fun h=>absurd h dZc,hJ3⟩
  ·exact dj (.tmp 0) (.inl rfl) ⟨fun _=>(aw 26 y _ dZc).trans (hy 0 dZc),hJ.pure dZc (bb dZc)⟩
  ·exact fu (.tmp 7) ⟨X,0,none⟩ rfl ((aw 26 y _ dZc).trans ((hp 5 dZc).2 dZc)) ⟨fun _=>rfl,hJ.pure dZc (bb dZc)⟩
  ·have e1:y 8=.pointer (some ⟨X,0,none⟩):=(hp 6 dZc).2 dZc;have hJ2:=hZz (hJ.pure dZc (bb dZc):JM w.heap.size X w.drew (upd L 7) w2);intro K Q hK;simp only [oM] at hK⊢;clear hy hp hJ;rw [e1] at hK⊢;go_simp;exact hK _ _ ⟨fun _=>rfl,hJ2.out⟩
  ·obtain ⟨w3,hr,hJ3⟩:=hJ.insert rfl (i:=3) dZc (hp 0 dZc).1 hL;exact dg _ (.tmp 3) (.const (.int .u64 6)) (.tmp 9) rfl _ _ _ ((aw 26 y _ dZc).trans ((hp 0 dZc).2 dZc)) rfl ((aw 26 y _ dZc).trans ((hp 7 dZc).2 dZc)) hr ⟨fun h=>absurd h dZc,hJ3⟩
  ·exact dj (.tmp 0) (.inl rfl) ⟨fun _=>(aw 26 y _ dZc).trans (hy 0 dZc),hJ.pure dZc (bb dZc)⟩
  ·exact fu (.tmp 10) ⟨X,0,none⟩ rfl ((aw 26 y _ dZc).trans ((hp 9 dZc).2 dZc)) ⟨fun _=>rfl,hJ.pure dZc (bb dZc)⟩
  ·have e1:y 11=.pointer (some ⟨X,0,none⟩):=(hp 10 dZc).2 dZc;have hJ2:=hZz (hJ.pure dZc (bb dZc):JM w.heap.size X w.drew (upd L 11) w2);intro K Q hK;simp only [oM] at hK⊢;clear hy hp hJ;rw [e1] at hK⊢;go_simp;exact hK _ _ ⟨fun _=>rfl,hJ2.out⟩
  ·obtain ⟨w3,hr,hJ3⟩:=hJ.insert rfl (i:=5) dZc (hp 0 dZc).1 hL;exact dg _ (.tmp 3) (.const (.int .u64 7)) (.tmp 12) rfl _ _ _ ((aw 26 y _ dZc).trans ((hp 0 dZc).2 dZc)) rfl ((aw 26 y _ dZc).trans ((hp 11 dZc).2 dZc)) hr ⟨fun h=>absurd h dZc,hJ3⟩
  ·exact dj (.tmp 0) (.inl rfl) ⟨fun _=>(aw 26 y _ dZc).trans (hy 0 dZc),hJ.pure dZc (bb dZc)⟩
  ·exact fu (.tmp 13) ⟨X,0,none⟩ rfl ((aw 26 y _ dZc).trans ((hp 13 dZc).2 dZc)) ⟨fun _=>rfl,hJ.pure dZc (bb dZc)⟩
  ·have e1:y 14=.pointer (some ⟨X,0,none⟩):=(hp 14 dZc).2 dZc;have hJ2:=hZz (hJ.pure dZc (bb dZc):JM w.heap.size X w.drew (upd L 15) w2);intro K Q hK;simp only [oM] at hK⊢;clear hy hp hJ;rw [e1] at hK⊢;go_simp;exact hK _ _ ⟨fun _=>rfl,hJ2.out⟩
  ·obtain ⟨w3,hr,hJ3⟩:=hJ.insert rfl (i:=6) dZc (hp 0 dZc).1 hL;exact dg _ (.tmp 3) (.const (.int .u64 8)) (.tmp 15) rfl _ _ _ ((aw 26 y _ dZc).trans ((hp 0 dZc).2 dZc)) rfl ((aw 26 y _ dZc).trans ((hp 15 dZc).2 dZc)) hr ⟨fun h=>absurd h dZc,hJ3⟩
  ·exact dj (.tmp 0) (.inl rfl) ⟨fun _=>(aw 26 y _ dZc).trans (hy 0 dZc),hJ.pure dZc (bb dZc)⟩
  ·exact fu (.tmp 16) ⟨X,0,none⟩ rfl ((aw 26 y _ dZc).trans ((hp 17 dZc).2 dZc)) ⟨fun _=>rfl,hJ.pure dZc (bb dZc)⟩
  ·have e1:y 17=.pointer (some ⟨X,0,none⟩):=(hp 18 dZc).2 dZc;have hJ2:=hZz (hJ.pure dZc (bb dZc):JM w.heap.size X w.drew (upd L 19) w2);intro K Q hK;simp only [oM] at hK⊢;clear hy hp hJ;rw [e1] at hK⊢;go_simp;exact hK _ _ ⟨fun _=>rfl,hJ2.out⟩
  ·obtain ⟨w3,hr,hJ3⟩:=hJ.insert rfl (i:=2) dZc (hp 0 dZc).1 hL;exact dg _ (.tmp 3) (.const (.int .u64 10)) (.tmp 18) rfl _ _ _ ((aw 26 y _ dZc).trans ((hp 0 dZc).2 dZc)) rfl ((aw 26 y _ dZc).trans ((hp 19 dZc).2 dZc)) hr ⟨fun h=>absurd h dZc,hJ3⟩
  ·exact dj (.tmp 0) (.inl rfl) ⟨fun _=>(aw 26 y _ dZc).trans (hy 0 dZc),hJ.pure dZc (bb dZc)⟩
  ·exact fu (.tmp 19) ⟨X,0,none⟩ rfl ((aw 26 y _ dZc).trans ((hp 21 dZc).2 dZc)) ⟨fun _=>rfl,hJ.pure dZc (bb dZc)⟩
  ·have e1:y 20=.pointer (some ⟨X,0,none⟩):=(hp 22 dZc).2 dZc;have hJ2:=hZz (hJ.pure dZc (bb dZc):JM w.heap.size X w.drew (upd L 23) w2);intro K Q hK;simp only [oM] at hK⊢;clear hy hp hJ;rw [e1] at hK⊢;go_simp;exact hK _ _ ⟨fun _=>rfl,hJ2.out⟩
  ·obtain ⟨w3,hr,hJ3⟩:=hJ.insert rfl (i:=0) dZc (hp 0 dZc).1 hL;exact dg _ (.tmp 3) (.const (.int .u64 14)) (.tmp 21) rfl _ _ _ ((aw 26 y _ dZc).trans ((hp 0 dZc).2 dZc)) rfl ((aw 26 y _ dZc).trans ((hp 23 dZc).2 dZc)) hr ⟨fun h=>absurd h dZc,hJ3⟩
  ·exact dj (.tmp 0) (.inl rfl) ⟨fun _=>(aw 26 y _ dZc).trans (hy 0 dZc),hJ.pure dZc (bb dZc)⟩
  ·exact fu (.tmp 22) ⟨X,0,none⟩ rfl ((aw 26 y _ dZc).trans ((hp 25 dZc).2 dZc)) ⟨fun _=>rfl,hJ.pure dZc (bb dZc)⟩
  ·have e1:y 23=.pointer (some ⟨X,0,none⟩):=(hp 26 dZc).2 dZc;have hJ2:=hZz (hJ.pure dZc (bb dZc):JM w.heap.size X w.drew (upd L 27) w2);intro K Q hK;simp only [oM] at hK⊢;clear hy hp hJ;rw [e1] at hK⊢;go_simp;exact hK _ _ ⟨fun _=>rfl,hJ2.out⟩
  ·obtain ⟨w3,hr,hJ3⟩:=hJ.insert rfl (i:=4) dZc (hp 0 dZc).1 hL;exact dg _ (.tmp 3) (.const (.int .u64 1610612749)) (.tmp 24) rfl _ _ _ ((aw 26 y _ dZc).trans ((hp 0 dZc).2 dZc)) rfl ((aw 26 y _ dZc).trans ((hp 27 dZc).2 dZc)) hr ⟨fun h=>absurd h dZc,hJ3⟩
  ·exact dj (.tmp 3) (.inl rfl) ⟨fun _=>(aw 26 y _ dZc).trans ((hp 0 dZc).2 dZc),hJ.pure dZc (bb dZc)⟩
  ·exact dj (.tmp 25) (.inr rfl) ⟨fun _=>(aw 26 y _ dZc).trans ((hp 29 dZc).2 dZc),hJ.pure dZc (bb dZc)⟩
 case fin=>
  intro L w' hJ hall;simp only [aO,List.set_cons_succ,List.set_cons_zero,Nat.reduceAdd,List.getD_cons_succ,List.getD_cons_zero];obtain ⟨D,ho,hD,hb⟩:=hJ.2 (hall 0 dZc);have HF:Hid (aY w' w.heap.size X 7 dq.seen):=hZz ⟨D,ho.mono (qh L),rF hD fun i hi=>hall _ (qn hi)⟩;have HB:Hid (Below w.heap.size w w'):=hZz ((Below.refl _ w).drew.trans hb);clear hJ hall ho hD hb;go_wp2;go_ret;exact ⟨_,rfl,lZr _,HF.out,HB.out⟩
theorem sK (g X n p:Nat) (seen:List Bool) (i:Nat) (w:World) (hi:i<7) (hp:w.cell? ⟨p,0,none⟩=some (.map (some g))) (hf:aY w g X n seen) :
 Calls Tryz.prog 140 #[.int .u64 (bo.getD i 0),.pointer (some ⟨p,0,none⟩)] w fun e w'=>e=.returned (.bool (seen.getD i false))∧w=w':=by
 have hr:=hf.look1 hi;have ht:=hH hi;generalize bo.getD i 0=t at hr ht;clear hf;cases hs:seen.getD i false with
 | true=>
   rw [hs,if_pos rfl] at hr;clear hs;go_enter Tryz.func140,Tryz.ntmps140
   go_wp2;go_ret;exact ⟨rfl,rfl⟩
 | false=>
   rw [hs,if_neg (by decide)] at hr;clear hs;go_enter Tryz.func140,Tryz.ntmps140
   go_wp2;go_ret;exact ⟨rfl,rfl⟩
theorem rk (g X n:Nat) (st:StD) (w:World) (hf:aY w g X n st.seen) :
 Calls Tryz.prog 98 #[.map (some g)] w fun r w'=>r=.returned (.bool (jn st))∧Below w.heap.size w w':=by
 have HBL:Hid (∀o,Below w.heap.size w (w.alloc o)):=hZz (fun o=>(Below.refl _ _).alloc (lZr _) o);have HF:Hid (∀o,aY (w.alloc o) g X n st.seen):=hZz (fun o=>by
  obtain ⟨D,h1,h2⟩:=hf;exact ⟨D,h1.alloc o,h2⟩)
 have HC:Hid (∀i t,i<7→bo.getD i 0=t→Calls Tryz.prog 140 #[.int .u64 t,.pointer (some ⟨w.heap.size,0,none⟩)] (w.alloc (.cells #[.map (some g)] 151)) fun e w'=>e=.returned (.bool (st.seen.getD i false))∧(w.alloc (.cells #[.map (some g)] 151))=w'):=hZz (fun i t hi ht=>by
  subst ht;exact sK g X n w.heap.size st.seen i _ hi (World.cell?_alloc_at _ _ _ _ rfl) (HF.out _))
 have H1:=hZz (HC.out 1 5 dZc rfl);have H2:=hZz (HC.out 2 10 dZc rfl);have H3:=hZz (HC.out 3 6 dZc rfl);have H4:=hZz (HC.out 4 1610612749 dZc rfl);have H5:=hZz (HC.out 5 7 dZc rfl);have H6:=hZz (HC.out 6 8 dZc rfl);unfold jn;generalize st.seen.getD 1 false=s1 at H1;generalize st.seen.getD 2 false=s2 at H2;generalize st.seen.getD 3 false=s3 at H3;generalize st.seen.getD 4 false=s4 at H4;generalize st.seen.getD 5 false=s5 at H5;generalize st.seen.getD 6 false=s6 at H6;clear hf HC HF;cases s1 with
 | false=>
   go_enter Tryz.func98,Tryz.ntmps98
   go_wp2_with (go_at_call 140;(first | with_reducible refine H1.out.mono ?_);rintro e w' ⟨rfl,rfl⟩);go_ret;exact ⟨rfl,HBL.out _⟩
 | true=>
   cases s2 with
   | false=>
     go_enter Tryz.func98,Tryz.ntmps98
     go_wp2_with (go_at_call 140;(first | with_reducible refine H1.out.mono ?_ | with_reducible refine H2.out.mono ?_);rintro e w' ⟨rfl,rfl⟩);go_ret;exact ⟨rfl,HBL.out _⟩
   | true=>
     cases h34:(s3==s4) with
     | false=>
       go_enter Tryz.func98,Tryz.ntmps98
       go_wp2_with (go_at_call 140;(first | with_reducible refine H1.out.mono ?_ | with_reducible refine H2.out.mono ?_ | with_reducible refine H3.out.mono ?_ | with_reducible refine H4.out.mono ?_);rintro e w' ⟨rfl,rfl⟩);go_ret;exact ⟨rfl,HBL.out _⟩
     | true=>
       go_enter Tryz.func98,Tryz.ntmps98
       go_wp2_with (go_at_call 140;(first | with_reducible refine H1.out.mono ?_ | with_reducible refine H2.out.mono ?_ | with_reducible refine H3.out.mono ?_ | with_reducible refine H4.out.mono ?_ | with_reducible refine H5.out.mono ?_ | with_reducible refine H6.out.mono ?_);rintro e w' ⟨rfl,rfl⟩);go_ret;exact ⟨rfl,HBL.out _⟩
theorem qR (g X n:Nat) (seen:List Bool) (t x:Int) (w:World) (ht:0≤t∧t≤18446744073709551615) (hf:aY w g X n seen) (hi:fD t=none) :
 Calls Tryz.prog 99 #[.map (some g),.int .u64 t,.int .u64 x] w fun e w'=>e=.returned (.int .i64 11)∧w=w':=by
 obtain ⟨v,hr⟩:=(hf.look ht).1 hi;clear hf hi;go_enter Tryz.func99,Tryz.ntmps99
 go_wp2;go_ret;exact ⟨rfl,rfl⟩
theorem rD (g X n:Nat) (seen:List Bool) (t x:Int) (i:Nat) (w:World) (ht:0≤t∧t≤18446744073709551615) (hf:aY w g X n seen) (hi:fD t=some i) (hs:seen.getD i false=true) :
 Calls Tryz.prog 99 #[.map (some g),.int .u64 t,.int .u64 x] w fun e w'=>e=.returned (.int .i64 12)∧w=w':=by
 have hr:=(hf.look ht).2 i hi;rw [if_pos hs] at hr;clear hf hi hs;go_enter Tryz.func99,Tryz.ntmps99
 go_wp2;go_ret;exact ⟨rfl,rfl⟩
theorem aY.setCell {w:World} {g X n:Nat} {seen:List Bool} (h:aY w g X n seen) {a:Addr} (ha:g≠a.block) (u:Value):aY (w.setCell a u) g X n seen:=by
 obtain ⟨D,h1,h2⟩:=h;exact ⟨D,h1.setCell ha u,h2⟩
theorem aY.below {w w':World} {g X n:Nat} {seen:List Bool} (h:aY w g X n seen) (hb:Below w.heap.size w w'):aY w' g X n seen:=by
 have hl:=h.lt;obtain ⟨D,⟨es,clock,h1,h2⟩,h3⟩:=h;exact ⟨D,⟨es,clock,by rw [hb.block g hl];exact h1,h2⟩,h3⟩
theorem aY.grown {w w':World} {g X n:Nat} {seen:List Bool} {r:Option Nat} (h:aY w g X n seen) (hg:w.grownBy w' r) (hr:some g≠r):aY w' g X n seen:=by
 obtain ⟨D,h1,h2⟩:=h;exact ⟨D,h1.kept hg hr,h2⟩
theorem vD (g X n:Nat) (seen:List Bool) (t x:Int) (i:Nat) (w:World) (x0:Int) (ht:0≤t∧t≤18446744073709551615) (hf:aY w g X n seen) (hgX:g≠X) (hn:n<maxLen) (hl:seen.length=7) (hi:fD t=some i) (hs:seen.getD i false=false)
 (hc:w.cell? ⟨X,i+1,none⟩=some (.int .u64 x0)) (hz:w.frozen? ⟨X,i+1,none⟩=false) :
 Calls Tryz.prog 99 #[.map (some g),.int .u64 t,.int .u64 x] w fun e w'=>e=.returned (.int .i64 0)∧aY w' g X (n+1) (seen.set i true)∧(w.setCell ⟨X,i+1,none⟩ (.int .u64 x)).grownBy w' (some g):=by
 have hr:=(hf.look ht).2 i hi;rw [if_neg (by rw [hs];decide)] at hr;obtain ⟨w2,hr2,hf2,hg2⟩:=(hf.setCell (a:=⟨X,i+1,none⟩) hgX (.int .u64 x)).mark hn (dU hi).1 hl;rw [(dU hi).2] at hr2;have HF:=hZz hf2;have HG:=hZz hg2;clear hf hi hs hf2 hg2;go_enter Tryz.func99,Tryz.ntmps99
 go_wp2;go_ret;exact ⟨rfl,HF.out,HG.out⟩
end Go.Proofs.YtclgbdfkdbbinaaGreat
namespace Go.Proofs.YtclgbdfkdbbinaaGreat
open Go.RowKit
def cI (N:List Int):List (Int×Int):=N.map fun x=>(1,x)
theorem rp (N:List Int):(cI N).length=N.length:=by simp [cI]
theorem lk {N:List Int} {k:Nat} (h:k<N.length):cI (N.take (k+1))=cI (N.take k)++[(1,N.getD k 0)]:=by
 unfold cI;rw [List.take_succ_eq_append_getElem h,List.map_append,gZe,gZg h];rfl
theorem kZ (N V:List Int):bf N V=cu (cI N++aj V 7)++iD (0,0):=by
 rw [←bW];unfold bf nj cI;rw [List.append_assoc]
theorem mg (N V:List Int):(bf N V).length=16*(N.length+(aj V 7).length)+16:=by
 rw [kZ,lZa,eV,om,lZa,rp]
theorem nP (V:List Int) (k:Nat):(aj V k).length≤k:=by
 unfold aj;rw [List.length_map];exact Nat.le_trans (List.length_filter_le _ _) (by simp)
theorem qu {V:List Int} (h:V.length=7):∃x0 x1 x2 x3 x4 x5 x6,V=[x0,x1,x2,x3,x4,x5,x6]:=by
 rcases V with _ | ⟨c0,_ | ⟨c1,_ | ⟨c2,_ | ⟨c3,_ | ⟨c4,_ | ⟨c5,_ | ⟨c6,_ | ⟨c7,cs⟩⟩⟩⟩⟩⟩⟩⟩;all_goals first | exact ⟨_,_,_,_,_,_,_,rfl⟩ | (simp at h;try omega)
theorem nh (B:Nat) (a va:Option Addr) (n c vc:Nat) (N V:List Int) (w:World) (h1:Nus w B a n N) (h2:Nus w B va 7 V) (hB:B≤w.heap.size) (hn:n≤1000) :
 Calls Tryz.prog 36 #[.agg #[.slice a n c,.slice va 7 vc]] w fun r w'=>(∃u,r=.returned u∧w'.ownsRow w.heap.size 5 1 u (bf N V).length ((bf N V).map (Value.int .u8)))∧Below w.heap.size w w':=by
 have hni:(n:Int)≤1000:=by omega
 obtain ⟨x0,x1,x2,x3,x4,x5,x6,hV⟩:=qu h2.hl;have HBW:Hid (Below w.heap.size w (w.alloc (.cells #[.slice a n c,.slice va 7 vc] 91))):=hZz ((Below.refl _ _).alloc (lZr _) _);have HQ:Hid (∀w',Below (w.heap.size+1) (w.alloc (.cells #[.slice a n c,.slice va 7 vc] 91)) w'→Blk w' w.heap.size #[.slice a n c,.slice va 7 vc] 91∧w.heap.size+1≤w'.heap.size):=hZz (fun w' hb=>
  ⟨(Blk.new w _ _).below hb (Nat.lt_succ_self _),by have:=hb.size;simp at this;omega⟩)
 have H1:Hid (∀w',Below (w.heap.size+1) (w.alloc (.cells #[.slice a n c,.slice va 7 vc] 91)) w'→Nus w' B a n N):=hZz (fun w' h=>(h1.below (HBW.out.mono hB)).below (h.mono oZm));have H2:Hid (∀w',Below (w.heap.size+1) (w.alloc (.cells #[.slice a n c,.slice va 7 vc] 91)) w'→Nus w' B va 7 V):=hZz (fun w' h=>(h2.below (HBW.out.mono hB)).below (h.mono oZm));have HNL:=hZz h1.hl;have HNA:=hZz (fun i hi=>h1.at (i:=i) hi);have HVA:=hZz (fun i hi=>h2.at (i:=i) hi);clear h1 h2;go_enter Tryz.func36,Tryz.ntmps36
 go_wp2;go_loopw [3,4] (fun v i wr=>∃k:Nat,k≤n∧i=.int .i64 k∧wr.ownsRow (w.heap.size+1) 5 1 v (16*k) ((cu (cI (N.take k))).map (Value.int .u8))∧Below (w.heap.size+1) (w.alloc (.cells #[.slice a n c,.slice va 7 vc] 91)) wr) (fun _ i _=>n-(intOf i).toNat)
 case atStart=>exact ⟨0,Nat.zero_le _,rfl,World.ownsRow_nil _ _ _ _,Below.refl _ _⟩
 case round=>
  obtain ⟨k,hk,rfl,hown,hbel⟩:=hrel;obtain ⟨p0,p1⟩:=b2 (HQ.out _ hbel).1;by_cases hlt:k<n
  ·obtain ⟨ab,ao,rfl,haB,hac⟩:=(H1.out _ hbel).hc oZm;have e1:=hac k hlt;have hki:(k:Int)<n:=by omega
   have hbd:=HNA.out k hlt;have HST:=hZz (lk (N:=N) (k:=k) (by have:=HNL.out;omega));have HOW:=hZz hown;have HBE:=hZz hbel;generalize N.getD k 0=x at e1 hbd HST;clear hac hown hbel;go_wp2_with fail;refine (ch (w.heap.size+1) _ (16*k) _ 1 x _ HOW.out (HQ.out _ HBE.out).2 oZm dZc dZc hbd.1 hbd.2).mono ?_;rintro r w2 ⟨v2,rfl,ho,hb⟩;rw [←bW,←HST.out] at ho;have HO2:Hid (w2.ownsRow (w.heap.size+1) 5 1 v2 (16*(k+1)) ((cu (cI (N.take (k+1)))).map (Value.int .u8))):=hZz ho;have HB2:=hZz (HBE.out.trans hb);clear ho hb;go_wp2;go_roundw
   case rel=>exact ⟨k+1,by omega,by go_num,HO2.out,HB2.out⟩
   case measure=>(simp [intOf]<;>omega)
  ·obtain rfl:n=k:=by omega
   have htk:N.take n=N:=List.take_of_length_le (by have:=HNL.out;omega);rw [htk] at hown;have HOW:Hid (wr.ownsRow (w.heap.size+1) 5 1 _ (16*(n+(aj V 0).length)) ((cu (cI N++aj V 0)).map (Value.int .u8))):=hZz (by
    have e:aj V 0=[]:=rfl;rw [e,List.append_nil];exact hown)
   have HBE:=hZz hbel;clear hown hbel htk;go_wp2;go_loopw [3,5,6] (fun v i _ wx=>∃k:Nat,k≤7∧i=.int .i64 k∧wx.ownsRow (w.heap.size+1) 5 1 v (16*(n+(aj V k).length)) ((cu (cI N++aj V k)).map (Value.int .u8))∧Below (w.heap.size+1) (w.alloc (.cells #[.slice a n c,.slice va 7 vc] 91)) wx) (fun _ i _ _=>7-(intOf i).toNat)
   case atStart=>exact ⟨0,Nat.zero_le _,rfl,HOW.out,HBE.out⟩
   case round=>
    obtain ⟨k,hk,rfl,hown,hbel⟩:=hrel;obtain ⟨p0,p1⟩:=b2 (HQ.out _ hbel).1;obtain ⟨vb,vo,rfl,hvB,hvc⟩:=(H2.out _ hbel).hc dZc;have c0:wr.cell? ⟨vb,vo,none⟩=some (.int .u64 x0):=by have:=hvc 0 dZc;rw [hV] at this;exact this
    have c1:wr.cell? ⟨vb,vo+1,none⟩=some (.int .u64 x1):=by have:=hvc 1 dZc;rw [hV] at this;exact this
    have c2:wr.cell? ⟨vb,vo+2,none⟩=some (.int .u64 x2):=by have:=hvc 2 dZc;rw [hV] at this;exact this
    have c3:wr.cell? ⟨vb,vo+3,none⟩=some (.int .u64 x3):=by have:=hvc 3 dZc;rw [hV] at this;exact this
    have c4:wr.cell? ⟨vb,vo+4,none⟩=some (.int .u64 x4):=by have:=hvc 4 dZc;rw [hV] at this;exact this
    have c5:wr.cell? ⟨vb,vo+5,none⟩=some (.int .u64 x5):=by have:=hvc 5 dZc;rw [hV] at this;exact this
    have c6:wr.cell? ⟨vb,vo+6,none⟩=some (.int .u64 x6):=by have:=hvc 6 dZc;rw [hV] at this;exact this
    have HOW:=hZz hown;have HBE:=hZz hbel;have HSL:=hZz (nP V k);clear hvc hown hbel;obtain rfl | rfl | rfl | rfl | rfl | rfl | rfl | rfl:k=0∨k=1∨k=2∨k=3∨k=4∨k=5∨k=6∨k=7:=by omega
    ·rw [show ((0:Nat):Int)=0 from rfl];by_cases hz:x0=0
     ·have hzb:(x0==0)=true:=by simpa using hz
      have HK:Hid (aj V 1=aj V 0):=hZz (by rw [aP,if_neg (by rw [hV];simp [cL,hz]),List.append_nil]);rw [←HK.out] at HOW;clear HK;go_wp2;go_roundw
      case rel=>exact ⟨1,by decide,by go_num,HOW.out,HBE.out⟩
      case measure=>(simp [intOf]<;>omega)
     ·have hzb:(x0==0)=false:=by simpa using hz
      have HK:Hid (aj V 1=aj V 0++[(bo.getD 0 0,x0)]):=hZz (by rw [aP,if_pos (by rw [hV];simp [cL,hz]),hV];rfl);have hx:0≤x0∧x0≤18446744073709551615:=by have:=HVA.out 0 dZc;rw [hV] at this;exact this
      go_wp2_with fail;refine (fh _).mono ?_;rintro r w2 ⟨rfl,hnu,hb2⟩;obtain ⟨tb,tof,ht,_,htc⟩:=hnu.hc dZc;injection ht with ht;injection ht with ht1 ht2;subst ht1;subst ht2;have ct:=htc 0 dZc;have HB2:=hZz (HBE.out.trans (hb2.mono (HQ.out _ HBE.out).2));have HO2:=hZz (own_below HOW.out hb2);clear hnu htc hb2;simp only [Nat.zero_add] at ct;rw [show bo.getD 0 0=14 from rfl] at ct HK;go_wp2_with fail;refine (ch (w.heap.size+1) _ _ _ 14 x0 _ HO2.out (HQ.out _ HB2.out).2 (by have:=HSL.out;omega) dZc dZc hx.1 hx.2).mono ?_;rintro r w3 ⟨v3,rfl,ho,hb3⟩;rw [←bW,List.append_assoc,←HK.out] at ho;have HO3:Hid (w3.ownsRow (w.heap.size+1) 5 1 v3 (16*(n+(aj V 1).length)) ((cu (cI N++aj V 1)).map (Value.int .u8))):=hZz (by
       rw [HK.out,lZa] at *;exact ho)
      have HB3:=hZz (HB2.out.trans hb3);clear ho hb3;go_wp2;go_roundw
      case rel=>exact ⟨1,by decide,by go_num,HO3.out,HB3.out⟩
      case measure=>(simp [intOf]<;>omega)
    ·rw [show ((1:Nat):Int)=1 from rfl];have HK:Hid (aj V 2=aj V 1++[(bo.getD 1 0,x1)]):=hZz (by rw [aP,if_pos (by rw [hV];simp [cL]),hV];rfl);have hx:0≤x1∧x1≤18446744073709551615:=by have:=HVA.out 1 dZc;rw [hV] at this;exact this
     go_wp2_with fail;refine (fh _).mono ?_;rintro r w2 ⟨rfl,hnu,hb2⟩;obtain ⟨tb,tof,ht,_,htc⟩:=hnu.hc dZc;injection ht with ht;injection ht with ht1 ht2;subst ht1;subst ht2;have ct:=htc 1 dZc;have HB2:=hZz (HBE.out.trans (hb2.mono (HQ.out _ HBE.out).2));have HO2:=hZz (own_below HOW.out hb2);clear hnu htc hb2;simp only [Nat.zero_add] at ct;rw [show bo.getD 1 0=5 from rfl] at ct HK;go_wp2_with fail;refine (ch (w.heap.size+1) _ _ _ 5 x1 _ HO2.out (HQ.out _ HB2.out).2 (by have:=HSL.out;omega) dZc dZc hx.1 hx.2).mono ?_;rintro r w3 ⟨v3,rfl,ho,hb3⟩;rw [←bW,List.append_assoc,←HK.out] at ho;have HO3:Hid (w3.ownsRow (w.heap.size+1) 5 1 v3 (16*(n+(aj V 2).length)) ((cu (cI N++aj V 2)).map (Value.int .u8))):=hZz (by
      rw [HK.out,lZa] at *;exact ho)
     have HB3:=hZz (HB2.out.trans hb3);clear ho hb3;go_wp2;go_roundw
     case rel=>exact ⟨2,by decide,by go_num,HO3.out,HB3.out⟩
     case measure=>(simp [intOf]<;>omega)
    ·rw [show ((2:Nat):Int)=2 from rfl];have HK:Hid (aj V 3=aj V 2++[(bo.getD 2 0,x2)]):=hZz (by rw [aP,if_pos (by rw [hV];simp [cL]),hV];rfl);have hx:0≤x2∧x2≤18446744073709551615:=by have:=HVA.out 2 dZc;rw [hV] at this;exact this
     go_wp2_with fail;refine (fh _).mono ?_;rintro r w2 ⟨rfl,hnu,hb2⟩;obtain ⟨tb,tof,ht,_,htc⟩:=hnu.hc dZc;injection ht with ht;injection ht with ht1 ht2;subst ht1;subst ht2;have ct:=htc 2 dZc;have HB2:=hZz (HBE.out.trans (hb2.mono (HQ.out _ HBE.out).2));have HO2:=hZz (own_below HOW.out hb2);clear hnu htc hb2;simp only [Nat.zero_add] at ct;rw [show bo.getD 2 0=10 from rfl] at ct HK;go_wp2_with fail;refine (ch (w.heap.size+1) _ _ _ 10 x2 _ HO2.out (HQ.out _ HB2.out).2 (by have:=HSL.out;omega) dZc dZc hx.1 hx.2).mono ?_;rintro r w3 ⟨v3,rfl,ho,hb3⟩;rw [←bW,List.append_assoc,←HK.out] at ho;have HO3:Hid (w3.ownsRow (w.heap.size+1) 5 1 v3 (16*(n+(aj V 3).length)) ((cu (cI N++aj V 3)).map (Value.int .u8))):=hZz (by
      rw [HK.out,lZa] at *;exact ho)
     have HB3:=hZz (HB2.out.trans hb3);clear ho hb3;go_wp2;go_roundw
     case rel=>exact ⟨3,by decide,by go_num,HO3.out,HB3.out⟩
     case measure=>(simp [intOf]<;>omega)
    ·rw [show ((3:Nat):Int)=3 from rfl];by_cases hz:x4=0
     ·have hzb:(x4==0)=true:=by simpa using hz
      have HK:Hid (aj V 4=aj V 3):=hZz (by rw [aP,if_neg (by rw [hV];simp [cL,hz]),List.append_nil]);rw [←HK.out] at HOW;clear HK;go_wp2;go_roundw
      case rel=>exact ⟨4,by decide,by go_num,HOW.out,HBE.out⟩
      case measure=>(simp [intOf]<;>omega)
     ·have hzb:(x4==0)=false:=by simpa using hz
      have HK:Hid (aj V 4=aj V 3++[(bo.getD 3 0,x3)]):=hZz (by rw [aP,if_pos (by rw [hV];simp [cL,hz]),hV];rfl);have hx:0≤x3∧x3≤18446744073709551615:=by have:=HVA.out 3 dZc;rw [hV] at this;exact this
      go_wp2_with fail;refine (fh _).mono ?_;rintro r w2 ⟨rfl,hnu,hb2⟩;obtain ⟨tb,tof,ht,_,htc⟩:=hnu.hc dZc;injection ht with ht;injection ht with ht1 ht2;subst ht1;subst ht2;have ct:=htc 3 dZc;have HB2:=hZz (HBE.out.trans (hb2.mono (HQ.out _ HBE.out).2));have HO2:=hZz (own_below HOW.out hb2);clear hnu htc hb2;simp only [Nat.zero_add] at ct;rw [show bo.getD 3 0=6 from rfl] at ct HK;go_wp2_with fail;refine (ch (w.heap.size+1) _ _ _ 6 x3 _ HO2.out (HQ.out _ HB2.out).2 (by have:=HSL.out;omega) dZc dZc hx.1 hx.2).mono ?_;rintro r w3 ⟨v3,rfl,ho,hb3⟩;rw [←bW,List.append_assoc,←HK.out] at ho;have HO3:Hid (w3.ownsRow (w.heap.size+1) 5 1 v3 (16*(n+(aj V 4).length)) ((cu (cI N++aj V 4)).map (Value.int .u8))):=hZz (by
       rw [HK.out,lZa] at *;exact ho)
      have HB3:=hZz (HB2.out.trans hb3);clear ho hb3;go_wp2;go_roundw
      case rel=>exact ⟨4,by decide,by go_num,HO3.out,HB3.out⟩
      case measure=>(simp [intOf]<;>omega)
    ·rw [show ((4:Nat):Int)=4 from rfl];by_cases hz:x4=0
     ·have hzb:(x4==0)=true:=by simpa using hz
      have HK:Hid (aj V 5=aj V 4):=hZz (by rw [aP,if_neg (by rw [hV];simp [cL,hz]),List.append_nil]);rw [←HK.out] at HOW;clear HK;go_wp2;go_roundw
      case rel=>exact ⟨5,by decide,by go_num,HOW.out,HBE.out⟩
      case measure=>(simp [intOf]<;>omega)
     ·have hzb:(x4==0)=false:=by simpa using hz
      have HK:Hid (aj V 5=aj V 4++[(bo.getD 4 0,x4)]):=hZz (by rw [aP,if_pos (by rw [hV];simp [cL,hz]),hV];rfl);have hx:0≤x4∧x4≤18446744073709551615:=by have:=HVA.out 4 dZc;rw [hV] at this;exact this
      go_wp2_with fail;refine (fh _).mono ?_;rintro r w2 ⟨rfl,hnu,hb2⟩;obtain ⟨tb,tof,ht,_,htc⟩:=hnu.hc dZc;injection ht with ht;injection ht with ht1 ht2;subst ht1;subst ht2;have ct:=htc 4 dZc;have HB2:=hZz (HBE.out.trans (hb2.mono (HQ.out _ HBE.out).2));have HO2:=hZz (own_below HOW.out hb2);clear hnu htc hb2;simp only [Nat.zero_add] at ct;rw [show bo.getD 4 0=1610612749 from rfl] at ct HK;go_wp2_with fail;refine (ch (w.heap.size+1) _ _ _ 1610612749 x4 _ HO2.out (HQ.out _ HB2.out).2 (by have:=HSL.out;omega) dZc dZc hx.1 hx.2).mono ?_;rintro r w3 ⟨v3,rfl,ho,hb3⟩;rw [←bW,List.append_assoc,←HK.out] at ho;have HO3:Hid (w3.ownsRow (w.heap.size+1) 5 1 v3 (16*(n+(aj V 5).length)) ((cu (cI N++aj V 5)).map (Value.int .u8))):=hZz (by
       rw [HK.out,lZa] at *;exact ho)
      have HB3:=hZz (HB2.out.trans hb3);clear ho hb3;go_wp2;go_roundw
      case rel=>exact ⟨5,by decide,by go_num,HO3.out,HB3.out⟩
      case measure=>(simp [intOf]<;>omega)
    ·rw [show ((5:Nat):Int)=5 from rfl];by_cases hz:x6=0
     ·have hzb:(x6==0)=true:=by simpa using hz
      have HK:Hid (aj V 6=aj V 5):=hZz (by rw [aP,if_neg (by rw [hV];simp [cL,hz]),List.append_nil]);rw [←HK.out] at HOW;clear HK;go_wp2;go_roundw
      case rel=>exact ⟨6,by decide,by go_num,HOW.out,HBE.out⟩
      case measure=>(simp [intOf]<;>omega)
     ·have hzb:(x6==0)=false:=by simpa using hz
      have HK:Hid (aj V 6=aj V 5++[(bo.getD 5 0,x5)]):=hZz (by rw [aP,if_pos (by rw [hV];simp [cL,hz]),hV];rfl);have hx:0≤x5∧x5≤18446744073709551615:=by have:=HVA.out 5 dZc;rw [hV] at this;exact this
      go_wp2_with fail;refine (fh _).mono ?_;rintro r w2 ⟨rfl,hnu,hb2⟩;obtain ⟨tb,tof,ht,_,htc⟩:=hnu.hc dZc;injection ht with ht;injection ht with ht1 ht2;subst ht1;subst ht2;have ct:=htc 5 dZc;have HB2:=hZz (HBE.out.trans (hb2.mono (HQ.out _ HBE.out).2));have HO2:=hZz (own_below HOW.out hb2);clear hnu htc hb2;simp only [Nat.zero_add] at ct;rw [show bo.getD 5 0=7 from rfl] at ct HK;go_wp2_with fail;refine (ch (w.heap.size+1) _ _ _ 7 x5 _ HO2.out (HQ.out _ HB2.out).2 (by have:=HSL.out;omega) dZc dZc hx.1 hx.2).mono ?_;rintro r w3 ⟨v3,rfl,ho,hb3⟩;rw [←bW,List.append_assoc,←HK.out] at ho;have HO3:Hid (w3.ownsRow (w.heap.size+1) 5 1 v3 (16*(n+(aj V 6).length)) ((cu (cI N++aj V 6)).map (Value.int .u8))):=hZz (by
       rw [HK.out,lZa] at *;exact ho)
      have HB3:=hZz (HB2.out.trans hb3);clear ho hb3;go_wp2;go_roundw
      case rel=>exact ⟨6,by decide,by go_num,HO3.out,HB3.out⟩
      case measure=>(simp [intOf]<;>omega)
    ·rw [show ((6:Nat):Int)=6 from rfl];by_cases hz:x6=0
     ·have hzb:(x6==0)=true:=by simpa using hz
      have HK:Hid (aj V 7=aj V 6):=hZz (by rw [aP,if_neg (by rw [hV];simp [cL,hz]),List.append_nil]);rw [←HK.out] at HOW;clear HK;go_wp2;go_roundw
      case rel=>exact ⟨7,by decide,by go_num,HOW.out,HBE.out⟩
      case measure=>(simp [intOf]<;>omega)
     ·have hzb:(x6==0)=false:=by simpa using hz
      have HK:Hid (aj V 7=aj V 6++[(bo.getD 6 0,x6)]):=hZz (by rw [aP,if_pos (by rw [hV];simp [cL,hz]),hV];rfl);have hx:0≤x6∧x6≤18446744073709551615:=by have:=HVA.out 6 dZc;rw [hV] at this;exact this
      go_wp2_with fail;refine (fh _).mono ?_;rintro r w2 ⟨rfl,hnu,hb2⟩;obtain ⟨tb,tof,ht,_,htc⟩:=hnu.hc dZc;injection ht with ht;injection ht with ht1 ht2;subst ht1;subst ht2;have ct:=htc 6 dZc;have HB2:=hZz (HBE.out.trans (hb2.mono (HQ.out _ HBE.out).2));have HO2:=hZz (own_below HOW.out hb2);clear hnu htc hb2;simp only [Nat.zero_add] at ct;rw [show bo.getD 6 0=8 from rfl] at ct HK;go_wp2_with fail;refine (ch (w.heap.size+1) _ _ _ 8 x6 _ HO2.out (HQ.out _ HB2.out).2 (by have:=HSL.out;omega) dZc dZc hx.1 hx.2).mono ?_;rintro r w3 ⟨v3,rfl,ho,hb3⟩;rw [←bW,List.append_assoc,←HK.out] at ho;have HO3:Hid (w3.ownsRow (w.heap.size+1) 5 1 v3 (16*(n+(aj V 7).length)) ((cu (cI N++aj V 7)).map (Value.int .u8))):=hZz (by
       rw [HK.out,lZa] at *;exact ho)
      have HB3:=hZz (HB2.out.trans hb3);clear ho hb3;go_wp2;go_roundw
      case rel=>exact ⟨7,by decide,by go_num,HO3.out,HB3.out⟩
      case measure=>(simp [intOf]<;>omega)
    ·rw [show ((7:Nat):Int)=7 from rfl];have HPE:=hZz (kZ N V);have HPL:=hZz (mg N V);have HNE:=hZz HNL.out;go_wp2_with fail;refine (ch (w.heap.size+1) _ _ _ 0 0 _ HOW.out (HQ.out _ HBE.out).2 (by have:=HSL.out;omega) dZc dZc dZc dZc).mono ?_;rintro r w3 ⟨v3,rfl,ho,hb3⟩;rw [←HPE.out] at ho;have HO3:Hid (w3.ownsRow (w.heap.size+1) 5 1 v3 (bf N V).length ((bf N V).map (Value.int .u8))):=hZz (by
      rw [HPL.out,HNE.out];exact ho)
     have HB3:=hZz (HBW.out.trans ((HBE.out.trans hb3).mono (Nat.le_succ _)));clear ho hb3;go_wp2;go_ret;exact ⟨⟨_,rfl,bL HO3.out (Nat.le_succ _)⟩,HB3.out⟩
def lR (a:Option Addr) (n c:Nat) (V:List Int):Value:=
 .agg #[.slice a n c,.int .u64 (V.getD 0 0),.int .u64 (V.getD 1 0),.int .u64 (V.getD 2 0),.int .u64 (V.getD 3 0),.int .u64 (V.getD 4 0),.int .u64 (V.getD 5 0),.int .u64 (V.getD 6 0)]
end Go.Proofs.YtclgbdfkdbbinaaGreat
