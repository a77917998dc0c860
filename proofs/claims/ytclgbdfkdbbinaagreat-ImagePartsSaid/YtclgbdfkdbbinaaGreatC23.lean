/-
  What is proved here: words and contracts, a part of those that the statement rests on (C23).
  Conditions: none but that the arguments are values of their types.
-/
import Derived.Test.YtclgbdfkdbbinaaGreatC14
import Derived.Test.YtclgbdfkdbbinaaGreatC6
import Derived.Test.YtclgbdfkdbbinaaGreatC18
import Derived.Maps.Own
import Derived.Maps.OwnSet
import Derived.Maps.Views
set_option linter.unusedVariables false
set_option linter.unusedSimpArgs false
set_option maxRecDepth 100000
set_option maxHeartbeats 12800000
namespace Go.Proofs.YtclgbdfkdbbinaaGreat
open Go.RowKit Go.WideMaps Go.Maps
theorem law_u64:Keyed Tryz.prog 24:=int_keyed Tryz.underlying24
theorem zero_ptr (w:World):(zeroValue 190).run Tryz.prog w=.ok (.pointer none) w:=by kernel_rfl
def keyU (t:Int):Lit:=.int .u64 t
theorem key_u64 {t:Int} (h:0≤t∧t≤18446744073709551615):keyOf Tryz.prog 24 (.int .u64 t)=some (keyU t):=
 keyOf_int_mk Tryz.underlying24 (by simp [Lit.wf,IntKind.min,IntKind.max,IntKind.signed,IntKind.bits];omega)
theorem isKeyU (t:Int):WideAt.IsKeyLit (keyU t):=by simp [keyU,WideAt.IsKeyLit]
theorem keyU_ne {s t:Int} (h:s≠t):keyU s≠keyU t:=fun e=>by
 unfold keyU at e;injection e with _ e;exact h e
def placeR (X:Nat):Value→Option (DataW Unit×List MemPlace)
 | .pointer none=>some (.lit (.bool false),[])
 | .pointer (some ⟨b,o,none⟩)=>if b=X then some (.lit (.int .u64 o),[]) else none
 | _=>none
theorem placeR_nil (X:Nat):placeR X (.pointer none)=some (.lit (.bool false),[]):=rfl
theorem placeR_at (X o:Nat):placeR X (.pointer (some ⟨X,o,none⟩))=some (.lit (.int .u64 o),[]):=by simp [placeR]
theorem placeR_inv_nil {X:Nat} {v:Value} {ps:List MemPlace} (h:placeR X v=some (.lit (.bool false),ps)):v=.pointer none:=by
 unfold placeR at h;split at h
 ·rfl
 ·split at h
  ·injection h with h;injection h with h _;injection h with h;cases h
  ·cases h
 ·cases h
theorem placeR_inv_at {X:Nat} {v:Value} {ps:List MemPlace} {o:Nat} (h:placeR X v=some (.lit (.int .u64 o),ps)):v=.pointer (some ⟨X,o,none⟩):=by
 unfold placeR at h;split at h
 ·injection h with h;injection h with h _;injection h with h;cases h
 ·split at h
  ·rename_i b o' hb;subst hb;injection h with h;injection h with h _;injection h with h;injection h with _ h;have:o'=o:=by omega
   subst this;rfl
  ·cases h
 ·cases h
def PartD (D:DataW Unit) (S:Nat→Bool):Prop:=
 ∀t:Int,Maps.has D (keyU t)=(match idxD t with | some i=>S i | none=>false)∧∀i,idxD t=some i→S i=true→∀z,D.atKey (keyU t) z=.lit (.int .u64 ((i+1:Nat):Int))
theorem partD_zero {S:Nat→Bool} (h:∀i,i<7→S i=false):PartD (.map []) S:=by
 intro t;cases hi:idxD t with
 | none=>exact ⟨rfl,fun i h=>by cases h⟩
 | some i=>
   have:=h i (idxD_lt hi).1;exact ⟨by simp only [this];rfl,fun j hj hs=>by injection hj with hj;subst hj;rw [this] at hs;cases hs⟩
theorem partD_put {D:DataW Unit} {S S':Nat→Bool} {i:Nat} (hi:i<7) (hm:IsMap D) (h:PartD D S) (h1:S' i=true) (h2:∀j,j<7→j≠i→S' j=S j):PartD (D.put (keyU (tagsD.getD i 0)) (.lit (.int .u64 ((i+1:Nat):Int)))) S':=by
 intro t;by_cases ht:t=tagsD.getD i 0
 ·subst ht;rw [idxD_tag hi];refine ⟨by simp only [h1];rw [has_put_same hm (isKeyU _)],fun j hj hs z=>?_⟩;injection hj with hj;subst hj;exact atKey_put_same hm (isKeyU _) _ _
 ·have hne:=keyU_ne ht;obtain ⟨q1,q2⟩:=h t;have hji:∀j,idxD t=some j→j≠i∧j<7:=fun j hj=>⟨fun e=>ht (by rw [←e];exact (idxD_lt hj).2.symm),(idxD_lt hj).1⟩
  refine ⟨?_,fun j hj hs z=>?_⟩
  ·rw [has_put_other hne,q1];cases hj:idxD t with
   | none=>rfl
   | some j=>obtain ⟨r1,r2⟩:=hji j hj;simp only;rw [h2 j r2 r1]
  ·obtain ⟨r1,r2⟩:=hji j hj;rw [atKey_put_other hne];exact q2 j hj (by rw [←h2 j r2 r1];exact hs) z
def AllD (D:DataW Unit) (seen:List Bool):Prop:=
 ∀t:Int,Maps.has D (keyU t)=(idxD t).isSome∧∀i,idxD t=some i→∀z,D.atKey (keyU t) z=if seen.getD i false=true then .lit (.bool false) else .lit (.int .u64 ((i+1:Nat):Int))
theorem allD_zero {D:DataW Unit} {S:Nat→Bool} (h:PartD D S) (hs:∀i,i<7→S i=true):AllD D stD0.seen:=by
 intro t;obtain ⟨q1,q2⟩:=h t;refine ⟨?_,fun i hi z=>?_⟩
 ·rw [q1];cases hi:idxD t with
  | none=>rfl
  | some i=>exact hs i (idxD_lt hi).1
 ·have hi7:=(idxD_lt hi).1;have hf:stD0.seen.getD i false=false:=by
   have:i=0∨i=1∨i=2∨i=3∨i=4∨i=5∨i=6:=by omega
   rcases this with rfl | rfl | rfl | rfl | rfl | rfl | rfl<;>rfl
  rw [hf,if_neg (by decide)];exact q2 i hi (hs i hi7) z
theorem allD_put {D:DataW Unit} {seen:List Bool} {i:Nat} (hi:i<7) (hm:IsMap D) (hl:seen.length=7) (h:AllD D seen):AllD (D.put (keyU (tagsD.getD i 0)) (.lit (.bool false))) (seen.set i true):=by
 intro t;by_cases ht:t=tagsD.getD i 0
 ·subst ht;rw [idxD_tag hi];refine ⟨by rw [has_put_same hm (isKeyU _)];rfl,fun j hj z=>?_⟩;injection hj with hj;subst hj;rw [atKey_put_same hm (isKeyU _)];have:(seen.set i true).getD i false=true:=by rw [List.getD_eq_getElem?_getD,List.getElem?_set_self (by omega)];rfl
  rw [if_pos this]
 ·have hne:=keyU_ne ht;obtain ⟨q1,q2⟩:=h t;refine ⟨by rw [has_put_other hne,q1],fun j hj z=>?_⟩;have hji:i≠j:=fun e=>ht (by rw [e];exact (idxD_lt hj).2.symm);rw [atKey_put_other hne,q2 j hj z];have:(seen.set i true).getD j false=seen.getD j false:=by rw [List.getD_eq_getElem?_getD,List.getElem?_set_ne hji,List.getD_eq_getElem?_getD]
  rw [this]
def FieldsM (w:World) (g X n:Nat) (seen:List Bool):Prop:=∃D,w.ownsMap Tryz.prog 24 (placeR X) g n D∧AllD D seen
theorem FieldsM.lt {w:World} {g X n:Nat} {seen:List Bool} (h:FieldsM w g X n seen):g<w.heap.size:=by
 obtain ⟨D,h,_⟩:=h;exact h.lt
theorem FieldsM.look {w:World} {g X n:Nat} {seen:List Bool} (h:FieldsM w g X n seen) {t:Int} (ht:0≤t∧t≤18446744073709551615) :
 (idxD t=none→∃v,(Instr.lookup 151 (.map (some g)) (.int .u64 t) true).run Tryz.prog w=.ok (.tuple #[v,.bool false]) w)∧
 (∀i,idxD t=some i→(Instr.lookup 151 (.map (some g)) (.int .u64 t) true).run Tryz.prog w=.ok (.tuple #[if seen.getD i false=true then .pointer none else .pointer (some ⟨X,i+1,none⟩),.bool true]) w):=by
 obtain ⟨D,ho,hD⟩:=h;obtain ⟨v,ps,hr,hv⟩:=ho.look_ok law_u64 Tryz.underlying151 (zero_ptr w) (placeR_nil X) (key_u64 ht);obtain ⟨q1,q2⟩:=hD t;rw [q1] at hr;refine ⟨fun hi=>⟨v,by rw [hr,hi];rfl⟩,fun i hi=>?_⟩;rw [hr,hi];rw [q2 i hi] at hv;by_cases hs:seen.getD i false=true
 ·rw [if_pos hs] at hv⊢;rw [placeR_inv_nil hv];rfl
 ·rw [if_neg hs] at hv⊢;rw [placeR_inv_at hv];rfl
theorem FieldsM.look1 {w:World} {g X n:Nat} {seen:List Bool} (h:FieldsM w g X n seen) {i:Nat} (hi:i<7) :
 (Instr.lookup 151 (.map (some g)) (.int .u64 (tagsD.getD i 0)) false).run Tryz.prog w=.ok (if seen.getD i false=true then .pointer none else .pointer (some ⟨X,i+1,none⟩)) w:=by
 obtain ⟨D,ho,hD⟩:=h;have ht:=tagsD_pos hi;obtain ⟨v,ps,hr,hv⟩:=ho.lookup law_u64 Tryz.underlying151 (zero_ptr w) (placeR_nil X) (key_u64 ht.2.2);obtain ⟨q1,q2⟩:=hD (tagsD.getD i 0);rw [hr];rw [q2 i (idxD_tag hi)] at hv;by_cases hs:seen.getD i false=true
 ·rw [if_pos hs] at hv⊢;rw [placeR_inv_nil hv]
 ·rw [if_neg hs] at hv⊢;rw [placeR_inv_at hv]
theorem FieldsM.mark {w:World} {g X n:Nat} {seen:List Bool} (h:FieldsM w g X n seen) (hn:n<maxLen) {i:Nat} (hi:i<7) (hl:seen.length=7) :
 ∃w',(Instr.mapUpdate 151 (.map (some g)) (.int .u64 (tagsD.getD i 0)) (.pointer none)).run Tryz.prog w=.ok () w'∧FieldsM w' g X (n+1) (seen.set i true)∧w.grownBy w' (some g):=by
 obtain ⟨D,ho,hD⟩:=h;have ht:=tagsD_pos hi;obtain ⟨w',hr,ho',hg⟩:=ho.update law_u64 Tryz.underlying151 hn (key_u64 ht.2.2) (placeR_nil X);exact ⟨w',hr,⟨_,ho',allD_put hi ho.isMap hl hD⟩,hg⟩
def insD (i:Nat):Nat:=([24,4,20,8,28,12,16]:List Nat).getD i 0
def cntD (L:Nat→Bool):Nat:=(L 24).toNat+(L 4).toNat+(L 20).toNat+(L 8).toNat+(L 28).toNat+(L 12).toNat+(L 16).toNat
theorem cntD_le (L:Nat→Bool):cntD L≤7:=by
 unfold cntD;have:=fun b:Bool=>Bool.toNat_le b;have h1:=this (L 24);have h2:=this (L 4);have h3:=this (L 20);have h4:=this (L 8);have h5:=this (L 28);have h6:=this (L 12);have h7:=this (L 16);omega
def JM (g X:Nat) (W0:World) (L:Nat→Bool) (w:World):Prop:=
 (L 0=false→w=W0∧∀i,i<7→L (insD i)=false)∧(L 0=true→∃D,w.ownsMap Tryz.prog 24 (placeR X) g (cntD L) D∧PartD D (fun i=>L (insD i))∧Below g W0 w)
theorem seven_of {p:Nat→Prop} (h:∀i,i<7→p i):p 0∧p 1∧p 2∧p 3∧p 4∧p 5∧p 6:=
 ⟨h 0 (by decide),h 1 (by decide),h 2 (by decide),h 3 (by decide),h 4 (by decide),h 5 (by decide),h 6 (by decide)⟩
theorem partD_congr {D:DataW Unit} {S S':Nat→Bool} (h:PartD D S) (hs:∀i,i<7→S i=S' i):PartD D S':=by
 intro t;obtain ⟨q1,q2⟩:=h t;refine ⟨?_,fun i hi h1 z=>q2 i hi (by rw [hs i (idxD_lt hi).1];exact h1) z⟩;rw [q1];cases hi:idxD t with
 | none=>rfl
 | some i=>simp only;rw [hs i (idxD_lt hi).1]
theorem JM.congr {g X:Nat} {W0 w:World} {L L':Nat→Bool} (h:JM g X W0 L w) (h0:L 0=L' 0) (hi:∀i,i<7→L (insD i)=L' (insD i)):JM g X W0 L' w:=by
 obtain ⟨p1,p2,p3,p4,p5,p6,p7⟩:=seven_of (p:=fun i=>L (insD i)=L' (insD i)) hi;simp only [insD,List.getD_cons_zero,List.getD_cons_succ] at p1 p2 p3 p4 p5 p6 p7;have hc:cntD L=cntD L':=by unfold cntD;rw [p1,p2,p3,p4,p5,p6,p7]
 refine ⟨fun e=>?_,fun e=>?_⟩
 ·obtain ⟨r1,r2⟩:=h.1 (h0.trans e);exact ⟨r1,fun i h7=>by rw [←hi i h7];exact r2 i h7⟩
 ·obtain ⟨D,r1,r2,r3⟩:=h.2 (h0.trans e);exact ⟨D,hc▸r1,partD_congr r2 hi,r3⟩
theorem JM.pure {g X:Nat} {W0 w:World} {L:Nat→Bool} (h:JM g X W0 L w) {j:Nat} (h0:j≠0) (hj:∀i,i<7→insD i≠j):JM g X W0 (upd L j) w:=
 h.congr (by rw [upd_other _ (Ne.symm h0)]) fun i hi=>by rw [upd_other _ (hj i hi)]
theorem JM.make {g X:Nat} {W0 w:World} {L:Nat→Bool} (h:JM g X W0 L w) (hg:W0.heap.size=g) (h0:L 0=false):.map (some w.heap.size)=Value.map (some g)∧JM g X W0 (upd L 0) (w.alloc (.map #[] 0)):=by
 obtain ⟨rfl,hi⟩:=h.1 h0;subst hg;refine ⟨rfl,⟨fun e=>(by rw [upd_same] at e;cases e),fun _=>⟨.map [],?_,?_,(Below.refl _ _).alloc (Nat.le_refl _) _⟩⟩⟩
 ·exact (World.ownsMap_made w Tryz.prog 24 (placeR X)).mono (Nat.zero_le _)
 ·refine partD_zero fun i h7=>?_;have hne:insD i≠0:=by
   have:i=0∨i=1∨i=2∨i=3∨i=4∨i=5∨i=6:=by omega
   rcases this with rfl | rfl | rfl | rfl | rfl | rfl | rfl<;>decide
  rw [upd_other _ hne];exact hi i h7
theorem insD_inj {i j:Nat} (hi:i<7) (hj:j<7) (h:insD i=insD j):i=j:=by
 have h1:i=0∨i=1∨i=2∨i=3∨i=4∨i=5∨i=6:=by omega
 have h2:j=0∨j=1∨j=2∨j=3∨j=4∨j=5∨j=6:=by omega
 rcases h1 with rfl | rfl | rfl | rfl | rfl | rfl | rfl<;>rcases h2 with rfl | rfl | rfl | rfl | rfl | rfl | rfl<;>first | rfl | (exact absurd h (by decide))
theorem cntD_upd {L:Nat→Bool} {i:Nat} (hi:i<7) (h:L (insD i)=false):cntD (upd L (insD i))=cntD L+1:=by
 have:i=0∨i=1∨i=2∨i=3∨i=4∨i=5∨i=6:=by omega
 rcases this with rfl | rfl | rfl | rfl | rfl | rfl | rfl;all_goals simp only [insD,List.getD_cons_zero,List.getD_cons_succ] at h⊢
 all_goals simp [cntD,upd,h]
 all_goals omega
theorem JM.insert {g X:Nat} {W0 w:World} {L:Nat→Bool} (h:JM g X W0 L w) (hW:W0.heap.size=g) {i:Nat} (hi:i<7) (h0:L 0=true) (hL:L (insD i)=false) :
 ∃w',(Instr.mapUpdate 151 (.map (some g)) (.int .u64 (tagsD.getD i 0)) (.pointer (some ⟨X,i+1,none⟩))).run Tryz.prog w=.ok () w'∧JM g X W0 (upd L (insD i)) w':=by
 obtain ⟨D,ho,hD,hb⟩:=h.2 h0;have ht:=tagsD_pos hi;have hc:=cntD_le L;obtain ⟨w',hr,ho',hg⟩:=ho.update law_u64 Tryz.underlying151 (by unfold maxLen;omega) (key_u64 ht.2.2) (placeR_at X (i+1));have hlt:=ho.lt;have hgs:g≤w.heap.size:=by omega
 have hne:(0:Nat)≠insD i:=by
  have:i=0∨i=1∨i=2∨i=3∨i=4∨i=5∨i=6:=by omega
  rcases this with rfl | rfl | rfl | rfl | rfl | rfl | rfl<;>decide
 refine ⟨w',hr,⟨fun e=>(by rw [upd_other _ hne,h0] at e;cases e),fun _=>⟨_,(cntD_upd hi hL)▸ho',?_,hb.grown hg hgs (fun q e=>by injection e with e;omega)⟩⟩⟩;exact partD_put hi ho.isMap hD (upd_same _ _) fun j hj hji=>upd_other _ fun e=>hji (insD_inj hj hi e)
theorem step_insert {P:Program} {o:Oper} {a:Act} {w w':World} {post:Value→World→Prop} (t:TypeId) (m k v:Operand) (hop:o.op=Op.insert t m k v) (M K V:Value) (hm:a.eval m=M) (hk:a.eval k=K) (hv:a.eval v=V)
 (hr:(Instr.mapUpdate t M K V).run P w=.ok () w') (h:post undef w'):StepFact P o a w post:=by
 intro K' Q hK;have:=hK _ _ h;unfold Oper.wp Oper.upon;simpa [execOp,hop,hm,hk,hv,hr,Result.andThen] using this
theorem step_makeMap {P:Program} {o:Oper} {a:Act} {w:World} {post:Value→World→Prop} (t:TypeId) (hop:o.op=Op.makeMap t none) (h:post (.map (some w.heap.size)) (w.alloc (.map #[] 0))):StepFact P o a w post:=by
 intro K' Q hK;have:=hK _ _ h;unfold Oper.wp Oper.upon;simpa [execOp,hop,Result.andThen,run_makeMap] using this
theorem step_nil {P:Program} {o:Oper} {a:Act} {w:World} {post:Value→World→Prop} (x:Operand) (p:Addr) (hop:o.op=Op.nilCheck x) (hx:a.eval x=.pointer (some p)) (h:post (.pointer (some p)) w):StepFact P o a w post:=by
 intro K' Q hK;have:=hK _ _ h;unfold Oper.wp Oper.upon;simpa [execOp,hop,hx,Result.andThen] using this
theorem k5_eval_frame (n:Nat) (y:Nat→Value) (d:List Deferred) {t:Nat} (h:t<n):(⟨frameOf n y,d⟩:Act).eval (.tmp t)=y t:=by
 simp [Act.eval,frameOf_get _ _ _ h]
theorem fr26 (y:Nat→Value):frameOf 26 y=#[y 0,y 1,y 2,y 3,y 4,y 5,y 6,y 7,y 8,y 9,y 10,y 11,y 12,y 13,y 14,y 15,y 16,y 17,y 18,y 19,y 20,y 21,y 22,y 23,y 24,y 25]:=rfl
theorem insD_not {j:Nat} (h:j≠24∧j≠4∧j≠20∧j≠8∧j≠28∧j≠12∧j≠16):∀i,i<7→insD i≠j:=by
 intro i hi;have:i=0∨i=1∨i=2∨i=3∨i=4∨i=5∨i=6:=by omega
 rcases this with rfl | rfl | rfl | rfl | rfl | rfl | rfl<;>simp only [insD,List.getD_cons_zero,List.getD_cons_succ]<;>omega
theorem insD_bd {i:Nat} (hi:i<7):insD i<31:=by
 have:i=0∨i=1∨i=2∨i=3∨i=4∨i=5∨i=6:=by omega
 rcases this with rfl | rfl | rfl | rfl | rfl | rfl | rfl<;>decide
theorem insD_lt {L L':Nat→Bool} (h:∀i,i<31→L i=L' i):∀i,i<7→L (insD i)=L' (insD i):=fun i hi=>h _ (insD_bd hi)
theorem fieldsOf_any (X:Nat) (w:World) :
 Calls Tryz.prog 96 #[.pointer (some ⟨X,0,none⟩)] w fun r w'=>∃g,r=.returned (.map (some g))∧w.heap.size≤g∧FieldsM w' g X 7 stD0.seen∧Below w.heap.size w w':=by
 go_enter Tryz.func96,Tryz.ntmps96
 go_wp2;refine wp_region_inv (by kernel_rfl) 26 rfl [3,4,5,6,104,7,8,9,108,10,11,12,112,13,14,15,116,16,17,18,120,19,20,21,124,22,23,24,128,25,2] [.map (some w.heap.size),.pointer (some ⟨X,0,none⟩),.pointer (some ⟨X,0,none⟩),.pointer (some ⟨X,2,none⟩),undef,.pointer (some ⟨X,0,none⟩),.pointer (some ⟨X,0,none⟩),.pointer (some ⟨X,4,none⟩),undef,.pointer (some ⟨X,0,none⟩),.pointer (some ⟨X,0,none⟩),.pointer (some ⟨X,6,none⟩),undef,.pointer (some ⟨X,0,none⟩),.pointer (some ⟨X,0,none⟩),.pointer (some ⟨X,7,none⟩),undef,.pointer (some ⟨X,0,none⟩),.pointer (some ⟨X,0,none⟩),.pointer (some ⟨X,3,none⟩),undef,.pointer (some ⟨X,0,none⟩),.pointer (some ⟨X,0,none⟩),.pointer (some ⟨X,1,none⟩),undef,.pointer (some ⟨X,0,none⟩),.pointer (some ⟨X,0,none⟩),.pointer (some ⟨X,5,none⟩),undef,.map (some w.heap.size),.map (some w.heap.size)] (JM w.heap.size X w.drew) ?hj (by kernel_rfl) ?start ?steps ?fin;case hj=>exact fun L L' w' h hJ=>hJ.congr (h 0 (by decide)) (insD_lt h)
 case start=>exact ⟨fun _=>⟨rfl,fun _ _=>rfl⟩,fun h=>by cases h⟩
 case steps=>
  refine ⟨?_,?_,?_,?_,?_,?_,?_,?_,?_,?_,?_,?_,?_,?_,?_,?_,?_,?_,?_,?_,?_,?_,?_,?_,?_,?_,?_,?_,?_,?_,?_,trivial⟩;all_goals intro L y w2 hJ hL hy hp
  ·exact step_makeMap 151 rfl ⟨fun _=>(hJ.make rfl hL).1,(hJ.make rfl hL).2⟩
  ·exact step_move (.tmp 0) (.inl rfl) ⟨fun _=>(k5_eval_frame 26 y _ (by decide)).trans (hy 0 (by decide)),hJ.pure (by decide) (insD_not (by decide))⟩
  ·exact step_nil (.tmp 4) ⟨X,0,none⟩ rfl ((k5_eval_frame 26 y _ (by decide)).trans ((hp 1 (by decide)).2 (by decide))) ⟨fun _=>rfl,hJ.pure (by decide) (insD_not (by decide))⟩
  ·have e1:y 5=.pointer (some ⟨X,0,none⟩):=(hp 2 (by decide)).2 (by decide);have hJ2:=Lib.hid (hJ.pure (by decide) (insD_not (by decide)):JM w.heap.size X w.drew (upd L 3) w2);intro K Q hK;simp only [fr26] at hK⊢;clear hy hp hJ;rw [e1] at hK⊢;go_simp;exact hK _ _ ⟨fun _=>rfl,hJ2.out⟩
  ·obtain ⟨w3,hr,hJ3⟩:=hJ.insert rfl (i:=1) (by decide) (hp 0 (by decide)).1 hL;exact step_insert _ (.tmp 3) (.const (.int .u64 5)) (.tmp 6) rfl _ _ _ ((k5_eval_frame 26 y _ (by decide)).trans ((hp 0 (by decide)).2 (by decide))) rfl ((k5_eval_frame 26 y _ (by decide)).trans ((hp 3 (by decide)).2 (by decide))) hr ⟨fun h=>absurd h (by decide),hJ3⟩
  ·exact step_move (.tmp 0) (.inl rfl) ⟨fun _=>(k5_eval_frame 26 y _ (by decide)).trans (hy 0 (by decide)),hJ.pure (by decide) (insD_not (by decide))⟩
  ·exact step_nil (.tmp 7) ⟨X,0,none⟩ rfl ((k5_eval_frame 26 y _ (by decide)).trans ((hp 5 (by decide)).2 (by decide))) ⟨fun _=>rfl,hJ.pure (by decide) (insD_not (by decide))⟩
  ·have e1:y 8=.pointer (some ⟨X,0,none⟩):=(hp 6 (by decide)).2 (by decide);have hJ2:=Lib.hid (hJ.pure (by decide) (insD_not (by decide)):JM w.heap.size X w.drew (upd L 7) w2);intro K Q hK;simp only [fr26] at hK⊢;clear hy hp hJ;rw [e1] at hK⊢;go_simp;exact hK _ _ ⟨fun _=>rfl,hJ2.out⟩
  ·obtain ⟨w3,hr,hJ3⟩:=hJ.insert rfl (i:=3) (by decide) (hp 0 (by decide)).1 hL;exact step_insert _ (.tmp 3) (.const (.int .u64 6)) (.tmp 9) rfl _ _ _ ((k5_eval_frame 26 y _ (by decide)).trans ((hp 0 (by decide)).2 (by decide))) rfl ((k5_eval_frame 26 y _ (by decide)).trans ((hp 7 (by decide)).2 (by decide))) hr ⟨fun h=>absurd h (by decide),hJ3⟩
  ·exact step_move (.tmp 0) (.inl rfl) ⟨fun _=>(k5_eval_frame 26 y _ (by decide)).trans (hy 0 (by decide)),hJ.pure (by decide) (insD_not (by decide))⟩
  ·exact step_nil (.tmp 10) ⟨X,0,none⟩ rfl ((k5_eval_frame 26 y _ (by decide)).trans ((hp 9 (by decide)).2 (by decide))) ⟨fun _=>rfl,hJ.pure (by decide) (insD_not (by decide))⟩
  ·have e1:y 11=.pointer (some ⟨X,0,none⟩):=(hp 10 (by decide)).2 (by decide);have hJ2:=Lib.hid (hJ.pure (by decide) (insD_not (by decide)):JM w.heap.size X w.drew (upd L 11) w2);intro K Q hK;simp only [fr26] at hK⊢;clear hy hp hJ;rw [e1] at hK⊢;go_simp;exact hK _ _ ⟨fun _=>rfl,hJ2.out⟩
  ·obtain ⟨w3,hr,hJ3⟩:=hJ.insert rfl (i:=5) (by decide) (hp 0 (by decide)).1 hL;exact step_insert _ (.tmp 3) (.const (.int .u64 7)) (.tmp 12) rfl _ _ _ ((k5_eval_frame 26 y _ (by decide)).trans ((hp 0 (by decide)).2 (by decide))) rfl ((k5_eval_frame 26 y _ (by decide)).trans ((hp 11 (by decide)).2 (by decide))) hr ⟨fun h=>absurd h (by decide),hJ3⟩
  ·exact step_move (.tmp 0) (.inl rfl) ⟨fun _=>(k5_eval_frame 26 y _ (by decide)).trans (hy 0 (by decide)),hJ.pure (by decide) (insD_not (by decide))⟩
  ·exact step_nil (.tmp 13) ⟨X,0,none⟩ rfl ((k5_eval_frame 26 y _ (by decide)).trans ((hp 13 (by decide)).2 (by decide))) ⟨fun _=>rfl,hJ.pure (by decide) (insD_not (by decide))⟩
  ·have e1:y 14=.pointer (some ⟨X,0,none⟩):=(hp 14 (by decide)).2 (by decide);have hJ2:=Lib.hid (hJ.pure (by decide) (insD_not (by decide)):JM w.heap.size X w.drew (upd L 15) w2);intro K Q hK;simp only [fr26] at hK⊢;clear hy hp hJ;rw [e1] at hK⊢;go_simp;exact hK _ _ ⟨fun _=>rfl,hJ2.out⟩
  ·obtain ⟨w3,hr,hJ3⟩:=hJ.insert rfl (i:=6) (by decide) (hp 0 (by decide)).1 hL;exact step_insert _ (.tmp 3) (.const (.int .u64 8)) (.tmp 15) rfl _ _ _ ((k5_eval_frame 26 y _ (by decide)).trans ((hp 0 (by decide)).2 (by decide))) rfl ((k5_eval_frame 26 y _ (by decide)).trans ((hp 15 (by decide)).2 (by decide))) hr ⟨fun h=>absurd h (by decide),hJ3⟩
  ·exact step_move (.tmp 0) (.inl rfl) ⟨fun _=>(k5_eval_frame 26 y _ (by decide)).trans (hy 0 (by decide)),hJ.pure (by decide) (insD_not (by decide))⟩
  ·exact step_nil (.tmp 16) ⟨X,0,none⟩ rfl ((k5_eval_frame 26 y _ (by decide)).trans ((hp 17 (by decide)).2 (by decide))) ⟨fun _=>rfl,hJ.pure (by decide) (insD_not (by decide))⟩
  ·have e1:y 17=.pointer (some ⟨X,0,none⟩):=(hp 18 (by decide)).2 (by decide);have hJ2:=Lib.hid (hJ.pure (by decide) (insD_not (by decide)):JM w.heap.size X w.drew (upd L 19) w2);intro K Q hK;simp only [fr26] at hK⊢;clear hy hp hJ;rw [e1] at hK⊢;go_simp;exact hK _ _ ⟨fun _=>rfl,hJ2.out⟩
  ·obtain ⟨w3,hr,hJ3⟩:=hJ.insert rfl (i:=2) (by decide) (hp 0 (by decide)).1 hL;exact step_insert _ (.tmp 3) (.const (.int .u64 10)) (.tmp 18) rfl _ _ _ ((k5_eval_frame 26 y _ (by decide)).trans ((hp 0 (by decide)).2 (by decide))) rfl ((k5_eval_frame 26 y _ (by decide)).trans ((hp 19 (by decide)).2 (by decide))) hr ⟨fun h=>absurd h (by decide),hJ3⟩
  ·exact step_move (.tmp 0) (.inl rfl) ⟨fun _=>(k5_eval_frame 26 y _ (by decide)).trans (hy 0 (by decide)),hJ.pure (by decide) (insD_not (by decide))⟩
  ·exact step_nil (.tmp 19) ⟨X,0,none⟩ rfl ((k5_eval_frame 26 y _ (by decide)).trans ((hp 21 (by decide)).2 (by decide))) ⟨fun _=>rfl,hJ.pure (by decide) (insD_not (by decide))⟩
  ·have e1:y 20=.pointer (some ⟨X,0,none⟩):=(hp 22 (by decide)).2 (by decide);have hJ2:=Lib.hid (hJ.pure (by decide) (insD_not (by decide)):JM w.heap.size X w.drew (upd L 23) w2);intro K Q hK;simp only [fr26] at hK⊢;clear hy hp hJ;rw [e1] at hK⊢;go_simp;exact hK _ _ ⟨fun _=>rfl,hJ2.out⟩
  ·obtain ⟨w3,hr,hJ3⟩:=hJ.insert rfl (i:=0) (by decide) (hp 0 (by decide)).1 hL;exact step_insert _ (.tmp 3) (.const (.int .u64 14)) (.tmp 21) rfl _ _ _ ((k5_eval_frame 26 y _ (by decide)).trans ((hp 0 (by decide)).2 (by decide))) rfl ((k5_eval_frame 26 y _ (by decide)).trans ((hp 23 (by decide)).2 (by decide))) hr ⟨fun h=>absurd h (by decide),hJ3⟩
  ·exact step_move (.tmp 0) (.inl rfl) ⟨fun _=>(k5_eval_frame 26 y _ (by decide)).trans (hy 0 (by decide)),hJ.pure (by decide) (insD_not (by decide))⟩
  ·exact step_nil (.tmp 22) ⟨X,0,none⟩ rfl ((k5_eval_frame 26 y _ (by decide)).trans ((hp 25 (by decide)).2 (by decide))) ⟨fun _=>rfl,hJ.pure (by decide) (insD_not (by decide))⟩
  ·have e1:y 23=.pointer (some ⟨X,0,none⟩):=(hp 26 (by decide)).2 (by decide);have hJ2:=Lib.hid (hJ.pure (by decide) (insD_not (by decide)):JM w.heap.size X w.drew (upd L 27) w2);intro K Q hK;simp only [fr26] at hK⊢;clear hy hp hJ;rw [e1] at hK⊢;go_simp;exact hK _ _ ⟨fun _=>rfl,hJ2.out⟩
  ·obtain ⟨w3,hr,hJ3⟩:=hJ.insert rfl (i:=4) (by decide) (hp 0 (by decide)).1 hL;exact step_insert _ (.tmp 3) (.const (.int .u64 1610612749)) (.tmp 24) rfl _ _ _ ((k5_eval_frame 26 y _ (by decide)).trans ((hp 0 (by decide)).2 (by decide))) rfl ((k5_eval_frame 26 y _ (by decide)).trans ((hp 27 (by decide)).2 (by decide))) hr ⟨fun h=>absurd h (by decide),hJ3⟩
  ·exact step_move (.tmp 3) (.inl rfl) ⟨fun _=>(k5_eval_frame 26 y _ (by decide)).trans ((hp 0 (by decide)).2 (by decide)),hJ.pure (by decide) (insD_not (by decide))⟩
  ·exact step_move (.tmp 25) (.inr rfl) ⟨fun _=>(k5_eval_frame 26 y _ (by decide)).trans ((hp 29 (by decide)).2 (by decide)),hJ.pure (by decide) (insD_not (by decide))⟩
 case fin=>
  intro L w' hJ hall;simp only [putAll,List.set_cons_succ,List.set_cons_zero,Nat.reduceAdd,List.getD_cons_succ,List.getD_cons_zero];obtain ⟨D,ho,hD,hb⟩:=hJ.2 (hall 0 (by decide));have HF:Hid (FieldsM w' w.heap.size X 7 stD0.seen):=Lib.hid ⟨D,ho.mono (cntD_le L),allD_zero hD fun i hi=>hall _ (insD_bd hi)⟩;have HB:Hid (Below w.heap.size w w'):=Lib.hid ((Below.refl _ w).drew.trans hb);clear hJ hall ho hD hb;go_wp2;go_ret;exact ⟨_,rfl,Nat.le_refl _,HF.out,HB.out⟩
theorem there_ok (g X n p:Nat) (seen:List Bool) (i:Nat) (w:World) (hi:i<7) (hp:w.cell? ⟨p,0,none⟩=some (.map (some g))) (hf:FieldsM w g X n seen) :
 Calls Tryz.prog 140 #[.int .u64 (tagsD.getD i 0),.pointer (some ⟨p,0,none⟩)] w fun e w'=>e=.returned (.bool (seen.getD i false))∧w=w':=by
 have hr:=hf.look1 hi;have ht:=tagsD_pos hi;generalize tagsD.getD i 0=t at hr ht;clear hf;cases hs:seen.getD i false with
 | true=>
   rw [hs,if_pos rfl] at hr;clear hs;go_enter Tryz.func140,Tryz.ntmps140
   go_wp2;go_ret;exact ⟨rfl,rfl⟩
 | false=>
   rw [hs,if_neg (by decide)] at hr;clear hs;go_enter Tryz.func140,Tryz.ntmps140
   go_wp2;go_ret;exact ⟨rfl,rfl⟩
theorem whole_any (g X n:Nat) (st:StD) (w:World) (hf:FieldsM w g X n st.seen) :
 Calls Tryz.prog 98 #[.map (some g)] w fun r w'=>r=.returned (.bool (wholeD st))∧Below w.heap.size w w':=by
 have HBL:Hid (∀o,Below w.heap.size w (w.alloc o)):=Lib.hid (fun o=>(Below.refl _ _).alloc (Nat.le_refl _) o);have HF:Hid (∀o,FieldsM (w.alloc o) g X n st.seen):=Lib.hid (fun o=>by
  obtain ⟨D,h1,h2⟩:=hf;exact ⟨D,h1.alloc o,h2⟩)
 have HC:Hid (∀i t,i<7→tagsD.getD i 0=t→Calls Tryz.prog 140 #[.int .u64 t,.pointer (some ⟨w.heap.size,0,none⟩)] (w.alloc (.cells #[.map (some g)] 151)) fun e w'=>e=.returned (.bool (st.seen.getD i false))∧(w.alloc (.cells #[.map (some g)] 151))=w'):=Lib.hid (fun i t hi ht=>by
  subst ht;exact there_ok g X n w.heap.size st.seen i _ hi (World.cell?_alloc_at _ _ _ _ rfl) (HF.out _))
 have H1:=Lib.hid (HC.out 1 5 (by decide) rfl);have H2:=Lib.hid (HC.out 2 10 (by decide) rfl);have H3:=Lib.hid (HC.out 3 6 (by decide) rfl);have H4:=Lib.hid (HC.out 4 1610612749 (by decide) rfl);have H5:=Lib.hid (HC.out 5 7 (by decide) rfl);have H6:=Lib.hid (HC.out 6 8 (by decide) rfl);unfold wholeD;generalize st.seen.getD 1 false=s1 at H1;generalize st.seen.getD 2 false=s2 at H2;generalize st.seen.getD 3 false=s3 at H3;generalize st.seen.getD 4 false=s4 at H4;generalize st.seen.getD 5 false=s5 at H5;generalize st.seen.getD 6 false=s6 at H6;clear hf HC HF;cases s1 with
 | false=>
   go_enter Tryz.func98,Tryz.ntmps98
   go_wp2_with (go_at_call 140;(first | with_reducible refine H1.out.mono ?_);rintro e w' ⟨rfl,rfl⟩);go_ret;exact ⟨rfl,HBL.out _⟩
 | true=>
   cases s2 with
   | false=>
     go_enter Tryz.func98,Tryz.ntmps98
     go_wp2_with (go_at_call 140;(first | with_reducible refine H1.out.mono ?_ | with_reducible refine H2.out.mono ?_);rintro e w' ⟨rfl,rfl⟩);go_ret;exact ⟨rfl,HBL.out _⟩
   | true=>
     cases h34:(s3==s4) with
     | false=>
       go_enter Tryz.func98,Tryz.ntmps98
       go_wp2_with (go_at_call 140;(first | with_reducible refine H1.out.mono ?_ | with_reducible refine H2.out.mono ?_ | with_reducible refine H3.out.mono ?_ | with_reducible refine H4.out.mono ?_);rintro e w' ⟨rfl,rfl⟩);go_ret;exact ⟨rfl,HBL.out _⟩
     | true=>
       go_enter Tryz.func98,Tryz.ntmps98
       go_wp2_with (go_at_call 140;(first | with_reducible refine H1.out.mono ?_ | with_reducible refine H2.out.mono ?_ | with_reducible refine H3.out.mono ?_ | with_reducible refine H4.out.mono ?_ | with_reducible refine H5.out.mono ?_ | with_reducible refine H6.out.mono ?_);rintro e w' ⟨rfl,rfl⟩);go_ret;exact ⟨rfl,HBL.out _⟩
theorem fill_form (g X n:Nat) (seen:List Bool) (t x:Int) (w:World) (ht:0≤t∧t≤18446744073709551615) (hf:FieldsM w g X n seen) (hi:idxD t=none) :
 Calls Tryz.prog 99 #[.map (some g),.int .u64 t,.int .u64 x] w fun e w'=>e=.returned (.int .i64 11)∧w=w':=by
 obtain ⟨v,hr⟩:=(hf.look ht).1 hi;clear hf hi;go_enter Tryz.func99,Tryz.ntmps99
 go_wp2;go_ret;exact ⟨rfl,rfl⟩
theorem fill_over (g X n:Nat) (seen:List Bool) (t x:Int) (i:Nat) (w:World) (ht:0≤t∧t≤18446744073709551615) (hf:FieldsM w g X n seen) (hi:idxD t=some i) (hs:seen.getD i false=true) :
 Calls Tryz.prog 99 #[.map (some g),.int .u64 t,.int .u64 x] w fun e w'=>e=.returned (.int .i64 12)∧w=w':=by
 have hr:=(hf.look ht).2 i hi;rw [if_pos hs] at hr;clear hf hi hs;go_enter Tryz.func99,Tryz.ntmps99
 go_wp2;go_ret;exact ⟨rfl,rfl⟩
theorem FieldsM.setCell {w:World} {g X n:Nat} {seen:List Bool} (h:FieldsM w g X n seen) {a:Addr} (ha:g≠a.block) (u:Value):FieldsM (w.setCell a u) g X n seen:=by
 obtain ⟨D,h1,h2⟩:=h;exact ⟨D,h1.setCell ha u,h2⟩
theorem FieldsM.below {w w':World} {g X n:Nat} {seen:List Bool} (h:FieldsM w g X n seen) (hb:Below w.heap.size w w'):FieldsM w' g X n seen:=by
 have hl:=h.lt;obtain ⟨D,⟨es,clock,h1,h2⟩,h3⟩:=h;exact ⟨D,⟨es,clock,by rw [hb.block g hl];exact h1,h2⟩,h3⟩
theorem FieldsM.grown {w w':World} {g X n:Nat} {seen:List Bool} {r:Option Nat} (h:FieldsM w g X n seen) (hg:w.grownBy w' r) (hr:some g≠r):FieldsM w' g X n seen:=by
 obtain ⟨D,h1,h2⟩:=h;exact ⟨D,h1.kept hg hr,h2⟩
theorem fill_ok (g X n:Nat) (seen:List Bool) (t x:Int) (i:Nat) (w:World) (x0:Int) (ht:0≤t∧t≤18446744073709551615) (hf:FieldsM w g X n seen) (hgX:g≠X) (hn:n<maxLen) (hl:seen.length=7) (hi:idxD t=some i) (hs:seen.getD i false=false)
 (hc:w.cell? ⟨X,i+1,none⟩=some (.int .u64 x0)) (hz:w.frozen? ⟨X,i+1,none⟩=false) :
 Calls Tryz.prog 99 #[.map (some g),.int .u64 t,.int .u64 x] w fun e w'=>e=.returned (.int .i64 0)∧FieldsM w' g X (n+1) (seen.set i true)∧(w.setCell ⟨X,i+1,none⟩ (.int .u64 x)).grownBy w' (some g):=by
 have hr:=(hf.look ht).2 i hi;rw [if_neg (by rw [hs];decide)] at hr;obtain ⟨w2,hr2,hf2,hg2⟩:=(hf.setCell (a:=⟨X,i+1,none⟩) hgX (.int .u64 x)).mark hn (idxD_lt hi).1 hl;rw [(idxD_lt hi).2] at hr2;have HF:=Lib.hid hf2;have HG:=Lib.hid hg2;clear hf hi hs hf2 hg2;go_enter Tryz.func99,Tryz.ntmps99
 go_wp2;go_ret;exact ⟨rfl,HF.out,HG.out⟩
end Go.Proofs.YtclgbdfkdbbinaaGreat
namespace Go.Proofs.YtclgbdfkdbbinaaGreat
open Go.RowKit
theorem k5_piece_piece {zs:List Int} {p n q k:Nat} (h:q+k≤n):piece (piece zs p n) q k=piece zs (p+q) k:=by
 unfold piece;rw [List.drop_take,List.take_take,List.drop_drop,Nat.min_eq_left (by omega)]
structure GC (wr:World) (r0 X g B:Nat) (nd:Value) (st:StD) (n:Nat):Prop where
 res:Blk wr r0 #[.slice none 0 0,.int .u64 0,.int .u64 0,.int .u64 0,.int .u64 0,.int .u64 0,.int .u64 0,.int .u64 0] 70
 box:Blk wr X (nd :: st.v.map (Value.int .u64)).toArray 70
 map:FieldsM wr g X n st.seen
 own:wr.ownsRow B 24 1 nd st.nd.length (st.nd.map (Value.int .u64))
 ok:StOk st
 bd:∀n∈st.nd,0≤n∧n≤18446744073709551615
 bv:∀n∈st.v,0≤n∧n≤18446744073709551615
 lt:r0<B∧X<B∧g<B
 ne:r0≠X∧r0≠g∧X≠g
 big:B≤wr.heap.size
theorem GC.call {wr w':World} {r0 X g B n:Nat} {nd:Value} {st:StD} (h:GC wr r0 X g B nd st n) (hb:Below wr.heap.size wr w'):GC w' r0 X g B nd st n:=
 ⟨h.res.later hb,h.box.later hb,h.map.below hb,own_below h.own hb,h.ok,h.bd,h.bv,h.lt,h.ne,Nat.le_trans h.big hb.size⟩
theorem GC.need {wr w':World} {r0 X g B n:Nat} {nd v':Value} {st:StD} {x:Int} (h:GC wr r0 X g B nd st n) (hx:0≤x∧x≤18446744073709551615) (hg:wr.grownBy w' nd.ownBlock) (ho:w'.ownsRow B 24 1 v' (st.nd.length+1) (st.nd.map (Value.int .u64)++[.int .u64 x])) :
 GC (w'.setCell ⟨X,0,none⟩ v') r0 X g B v' ⟨st.nd++[x],st.v,st.seen⟩ n:=by
 obtain ⟨l0,l1,l2⟩:=h.lt;obtain ⟨n0,n1,n2⟩:=h.ne;have hr:∀g,g<B→some g≠nd.ownBlock:=fun g hlt e=>by have:=(h.own.lt g e.symm).1;omega
 refine ⟨(h.res.grown hg (hr _ l0)).setOther n0 _,?_,(h.map.grown hg (hr _ l2)).setCell (fun e=>n2 e.symm) _,?_,h.ok.need x,?_,h.bv,h.lt,h.ne,by rw [World.size_setCell];exact Nat.le_trans h.big hg.size⟩
 ·have:=(h.box.grown hg (hr _ l1)).set 0 v';simpa using this
 ·have h2:w'.ownsRow B 24 1 v' (st.nd++[x]).length ((st.nd++[x]).map (Value.int .u64)):=by simpa using ho
  exact ownsRow_setCell_below h2 l1 _
 ·intro n hn;rcases List.mem_append.1 hn with hn | hn
  ·exact h.bd n hn
  ·obtain rfl:=List.mem_singleton.1 hn;exact hx
theorem GC.put {wr w':World} {r0 X g B n:Nat} {nd:Value} {st:StD} {x:Int} {i:Nat} (h:GC wr r0 X g B nd st n) (hx:0≤x∧x≤18446744073709551615)
 (hm:FieldsM w' g X (n+1) (st.seen.set i true)) (hg:(wr.setCell ⟨X,i+1,none⟩ (.int .u64 x)).grownBy w' (some g)) :
 GC w' r0 X g B nd ⟨st.nd,st.v.set i x,st.seen.set i true⟩ (n+1):=by
 obtain ⟨l0,l1,l2⟩:=h.lt;obtain ⟨n0,n1,n2⟩:=h.ne;refine ⟨(h.res.setOther n0 _).grown hg (fun e=>n1 (by injection e)),?_,hm,?_,h.ok.set i x,h.bd,?_,h.lt,h.ne,?_⟩
 ·have:=(h.box.set (i+1) (.int .u64 x)).grown hg (fun e=>n2 (by injection e));simpa [List.map_set] using this
 ·refine (ownsRow_setCell_below h.own l1 _).kept hg ?_;rcases hq:nd.ownBlock with _ | q
  ·exact .inl rfl
  ·refine .inr fun e=>?_;have:=(h.own.lt q hq).1;injection e with e;omega
 ·intro n hn;rcases List.mem_or_eq_of_mem_set hn with hn | rfl
  ·exact h.bv n hn
  ·exact hx
 ·have h1:=hg.size;rw [World.size_setCell] at h1;exact Nat.le_trans h.big h1
theorem GC.cells {wr:World} {r0 X g B n:Nat} {nd:Value} {st:StD} (h:GC wr r0 X g B nd st n) {i:Nat} (hi:i<7):wr.cell? ⟨X,i+1,none⟩=some (.int .u64 (st.v.getD i 0))∧wr.frozen? ⟨X,i+1,none⟩=false:=by
 refine ⟨?_,h.box.frozen _⟩;rw [h.box.cell];have:=h.ok.v;simp [List.getD_eq_getElem?_getD,List.getElem?_eq_getElem (show i<st.v.length by omega)]
def slen:Value→Nat
 | .slice _ m _=>m
 | _=>0
theorem own_eight {w:World} {base B n:Nat} {v:Value} {xs:List Value} (h:w.ownsRow B 24 1 v n xs) {r0:Nat} (hl:r0<B) (v0 v1 v2 v3 v4 v5 v6 v7:Value) :
 ((((((((w.setCell ⟨r0,0,none⟩ v0).setCell ⟨r0,1,none⟩ v1).setCell ⟨r0,2,none⟩ v2).setCell ⟨r0,3,none⟩ v3).setCell ⟨r0,4,none⟩ v4).setCell ⟨r0,5,none⟩ v5).setCell ⟨r0,6,none⟩ v6).setCell ⟨r0,7,none⟩ v7).ownsRow B 24 1 v n xs:=
 ownsRow_setCell_below (ownsRow_setCell_below (ownsRow_setCell_below (ownsRow_setCell_below (ownsRow_setCell_below (ownsRow_setCell_below (ownsRow_setCell_below (ownsRow_setCell_below h hl _) hl _) hl _) hl _) hl _) hl _) hl _) hl _
theorem below_eight {w w':World} {r0 B:Nat} (h:Below B w w') (hl:B≤r0) (v0 v1 v2 v3 v4 v5 v6 v7:Value) :
 Below B w ((((((((w'.setCell ⟨r0,0,none⟩ v0).setCell ⟨r0,1,none⟩ v1).setCell ⟨r0,2,none⟩ v2).setCell ⟨r0,3,none⟩ v3).setCell ⟨r0,4,none⟩ v4).setCell ⟨r0,5,none⟩ v5).setCell ⟨r0,6,none⟩ v6).setCell ⟨r0,7,none⟩ v7):=
 (((((((h.setCell hl _).setCell hl _).setCell hl _).setCell hl _).setCell hl _).setCell hl _).setCell hl _).setCell hl _
end Go.Proofs.YtclgbdfkdbbinaaGreat
