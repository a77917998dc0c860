/-
  What is proved here: words and contracts, a part of those that the statement rests on (B17).
  Conditions: none but that the arguments are values of their types.
-/
import Derived.Test.YtclgbdfkdbbinaaGreatB0
import Derived.Test.YtclgbdfkdbbinaaGreatB1
import Derived.Test.YtclgbdfkdbbinaaGreatB16
import Derived.Test.YtclgbdfkdbbinaaGreatB7
import Derived.Laws.Rows
import Derived.Deep.WholeRow
import Derived.Deep.Cut
import Derived.Deep.DeepCutAuto
import Derived.ProofKit
import Derived.OpenShut
import Derived.ChangeSame
set_option linter.unusedVariables false
set_option linter.unusedSimpArgs false
set_option maxRecDepth 100000
set_option maxHeartbeats 12800000
namespace Go.Proofs.YtclgbdfkdbbinaaGreat
open Go.RowKit
section
variable {P : Program}
theorem ki {ops:Array Oper} {rest:List Oper} {o:Oper} {a:Act} {w:World} {Q:Exit→Act→World→Prop} (hg:o.guard=none) (t:TypeId) (cC:Array (Nat×Operand)) (ho:o.op=.build t cC) (V:Array Value)
 (hf:P.built t (cC.map fun (i,x)=>(i,a.eval x)).toList=some V) (h:wpList P ops Q rest (a.put o.dst (.agg V)) w):wpList P ops Q (o :: rest) a w:=by
 refine wpList_build hg t cC ho (by rw [hf];rfl) ?_;rw [hf];exact h
theorem jM {o:Oper} {a:Act} {w:World} {K:Act→World→Prop} {Q:Exit→Act→World→Prop} (t:TypeId) (ho:o.op=.alloc t) (i:TypeInfo) (z:Value) (hi:P.info? t=some i) (hz:i.zero=some z)
 (h:K (a.put o.dst (.pointer (some ⟨w.heap.size,0,none⟩))) (w.alloc (.cells z.cells t))):o.wp P a w K Q:=by
 unfold Oper.wp execOp;simp [ho,Instr.alloc,zeroValue,typeInfo,hi,hz,Sem.run_bind]
 exact h
theorem eL {ops:Array Oper} {rest:List Oper} {o:Oper} {a:Act} {w:World} {Q:Exit→Act→World→Prop} (hg:o.guard=none) (t:TypeId) (ho:o.op=.alloc t) (Z:Array Value) (hz:(P.info? t).map (fun i=>i.zero.map (·.cells))=some (some Z))
 (h:wpList P ops Q rest (a.put o.dst (.pointer (some ⟨w.heap.size,0,none⟩))) (w.alloc (.cells Z t))):wpList P ops Q (o :: rest) a w:=by
 cases hi:P.info? t with
 | none=>rw [hi] at hz;cases hz
 | some i=>
   cases hq:i.zero with
   | none=>rw [hi] at hz;simp [hq] at hz
   | some z=>
     rw [hi] at hz;simp [hq] at hz
     subst hz;exact wpList_plain hg fun _ hK=>jM t ho i z hi hq (hK _ _ h)
theorem ny {o:Oper} {a:Act} {w:World} {K:Act→World→Prop} {Q:Exit→Act→World→Prop} (t:TypeId) (cC:Array (Nat×Operand)) (ho:o.op=.build t cC) (V:Array Value)
 (hf:P.built t (cC.map fun (i,x)=>(i,a.eval x)).toList=some V) (h:K (a.put o.dst (.agg V)) w):o.wp P a w K Q:=by
 refine wp_build t cC ho (by rw [hf];rfl) ?_;rw [hf];exact h
theorem mB {o:Oper} {a:Act} {w:World} {K:Act→World→Prop} {Q:Exit→Act→World→Prop} (t:TypeId) (ho:o.op=.alloc t) (Z:Array Value) (hz:(P.info? t).map (fun i=>i.zero.map (·.cells))=some (some Z))
 (h:K (a.put o.dst (.pointer (some ⟨w.heap.size,0,none⟩))) (w.alloc (.cells Z t))):o.wp P a w K Q:=by
 cases hi:P.info? t with
 | none=>rw [hi] at hz;cases hz
 | some i=>
   cases hq:i.zero with
   | none=>rw [hi] at hz;simp [hq] at hz
   | some z=>
     rw [hi] at hz;simp [hq] at hz
     subst hz;exact jM t ho i z hi hq h
theorem oP {ops:Array Oper} {rest:List Oper} {o1 o2 o3:Oper} {a:Act} {w:World} {Q:Exit→Act→World→Prop} (t:TypeId) (cC:Array (Nat×Operand)) (V Z:Array Value) (x y:Operand)
 (hg1:o1.guard=none) (ho1:o1.op=.build t cC) (hg2:o2.guard=none) (ho2:o2.op=.alloc t) (hg3:o3.guard=none) (ho3:o3.op=.store t x y)
 (hf:P.built t (cC.map fun (i,x)=>(i,a.eval x)).toList=some V) (hz:(P.info? t).map (fun i=>i.zero.map (·.cells))=some (some Z)) (hi:(P.info? t).map (·.size)=some V.size) (hs:Z.size=V.size) (h1:V.all (·.oneCell')=true)
 (hx:((a.put o1.dst (.agg V)).put o2.dst (.pointer (some ⟨w.heap.size,0,none⟩))).eval x=.pointer (some ⟨w.heap.size,0,none⟩)) (hy:((a.put o1.dst (.agg V)).put o2.dst (.pointer (some ⟨w.heap.size,0,none⟩))).eval y=.agg V)
 (h:wpList P ops Q rest (((a.put o1.dst (.agg V)).put o2.dst (.pointer (some ⟨w.heap.size,0,none⟩))).put o3.dst undef) (w.alloc (.cells V t))):wpList P ops Q (o1 :: o2 :: o3 :: rest) a w:=by
 refine ki hg1 t cC ho1 V hf ?_;refine eL hg2 t ho2 Z hz ?_;refine wpList_store_row hg3 t x y ho3 w.heap.size V hx hy t Z (Blk.new w Z t) hi hs h1 ?_;rw [World.setRow_alloc_new];exact h
end
end Go.Proofs.YtclgbdfkdbbinaaGreat
namespace Go.Proofs.YtclgbdfkdbbinaaGreat
open Go.RowKit
def iK:List (Pm→Int×Pm):=[iP,fv,eF,nx,crI,csI]
def pi (q:Nat) (m:Pm):Prop:=if q≤3 then m.m.nd=[]∧m.m.nm=[] else True
theorem qG (q:Nat) (m:Pm) (hq:q<6) (h:pi q m) (h0:((iK.getD q fun m=>(0,m)) m).1=0):pi (q+1) ((iK.getD q fun m=>(0,m)) m).2:=by
 have hq:q=0∨q=1∨q=2∨q=3∨q=4∨q=5:=by omega
 rcases hq with rfl | rfl | rfl | rfl | rfl | rfl
 ·show pi 1 (iP m).2;unfold iP;split<;>exact h
 ·show pi 2 (fv m).2;unfold fv;repeat' split
  all_goals exact h
 ·show pi 3 (eF m).2;unfold eF;repeat' split
  all_goals exact h
 ·exact trivial
 ·exact trivial
 ·exact trivial
theorem wH (g:Nat) (q:Nat) (hq:q<6):iF g ([19,20,21,22,23,24].getD q 0) (pi q) (iK.getD q fun m=>(0,m)):=by
 have hq:q=0∨q=1∨q=2∨q=3∨q=4∨q=5:=by omega
 rcases hq with rfl | rfl | rfl | rfl | rfl | rfl
 ·exact (sX g).at' _
 ·exact (sw g).at' _
 ·exact (sJ g).at' _
 ·exact fun p m w h=>vv g p m w h
 ·exact (vQ g).at' _
 ·exact (wM g).at' _
theorem vC (g:Nat) (W:World) (hh:Nat) (h0:W.heap.size=hh) (p:Pz) (m:Pm) (h1:Ps9 g W p m) (hm:m.m.nd=[]∧m.m.nm=[]) :
 Calls Tryz.prog 18 #[.slice (some ⟨hh,0,none⟩) 6 6] (W.alloc (.cells #[.func (.func 19) #[.pointer (some ⟨g,0,none⟩)] #[],.func (.func 20) #[.pointer (some ⟨g,0,none⟩)] #[],.func (.func 21) #[.pointer (some ⟨g,0,none⟩)] #[],.func (.func 22) #[.pointer (some ⟨g,0,none⟩)] #[],.func (.func 23) #[.pointer (some ⟨g,0,none⟩)] #[],.func (.func 24) #[.pointer (some ⟨g,0,none⟩)] #[]] 74)) fun r w'=>r=.returned (.int .i64 (cS iK m).1)∧((cS iK m).1=0→∃p,Ps9 g w' p (cS iK m).2)∧Kq g W w':=by
 subst h0;have h3:=h1.lt;have h4:=jT g W.heap.size 6 [19,20,21,22,23,24] iK #[.func (.func 19) #[.pointer (some ⟨g,0,none⟩)] #[],.func (.func 20) #[.pointer (some ⟨g,0,none⟩)] #[],.func (.func 21) #[.pointer (some ⟨g,0,none⟩)] #[],.func (.func 22) #[.pointer (some ⟨g,0,none⟩)] #[],.func (.func 23) #[.pointer (some ⟨g,0,none⟩)] #[],.func (.func 24) #[.pointer (some ⟨g,0,none⟩)] #[]] 74 p m _ (h1.alloc (.cells #[.func (.func 19) #[.pointer (some ⟨g,0,none⟩)] #[],.func (.func 20) #[.pointer (some ⟨g,0,none⟩)] #[],.func (.func 21) #[.pointer (some ⟨g,0,none⟩)] #[],.func (.func 22) #[.pointer (some ⟨g,0,none⟩)] #[],.func (.func 23) #[.pointer (some ⟨g,0,none⟩)] #[],.func (.func 24) #[.pointer (some ⟨g,0,none⟩)] #[]] 74)) (Blk.new W _ _) oZm rfl oZm
  (fun q hq=>by
   have hq:q=0∨q=1∨q=2∨q=3∨q=4∨q=5:=by omega
   rcases hq with rfl | rfl | rfl | rfl | rfl | rfl<;>rfl)
  (fun q hq=>by
   have hq:q=0∨q=1∨q=2∨q=3∨q=4∨q=5:=by omega
   rcases hq with rfl | rfl | rfl | rfl | rfl | rfl<;>decide)
  pi hm qG (wH g)
 exact h4.mono fun r w' h=>⟨h.1,h.2.1,((Kq.refl g W).alloc (Nat.le_of_lt h3) _).trans h.2.2⟩
theorem nG.is {w:World} {b:Nat} {p:Pz} {m:Pm} (h:nG w b p m):p.x.Is w w.heap.size m.m:=by
 have o0:=h.sg;have o1:=h.nd;have o2:=h.nm;have o3:=h.sy;have o4:=h.rl;have o5:=h.zs;obtain ⟨n0,l0,c0⟩:=cT o0;obtain ⟨n1,l1,c1⟩:=cT o1;obtain ⟨n2,l2,c2⟩:=cT o2;obtain ⟨n3,l3,c3⟩:=cT o3;obtain ⟨n4,l4,c4⟩:=cT o4;obtain ⟨n5,l5,c5⟩:=cT o5;rw [←n0] at o0;rw [←n1] at o1;rw [←n2] at o2;rw [←n3] at o3;rw [←n4] at o4;rw [←n5] at o5;exact ⟨h.k,h.e,h.s,h.c,h.so,Sgs.own h.oks o0,du.own o1,du.own o2,Sy.Sl.own h.oky o3,Rl.Sl.own h.okr o4,Bys.own h.okz o5,⟨l0,c0⟩,⟨l1,c1⟩,⟨l2,c2⟩,⟨l3,c3⟩,⟨l4,c4⟩,⟨l5,c5⟩⟩
theorem jO:cw 0:=⟨by decide,by decide⟩
theorem prow0 (w:World) (b:Nat) (a:Option Addr) (len cap:Nat) (zs:List Int):nG w b ⟨iv0,⟨a,len,cap⟩,Sh.zero,0,0,0,0,0,0,0,Sh.zero⟩ (pm0 zs):=
 ⟨rfl,rfl,rfl,rfl,rfl,World.ownsRow_nil _ _ _ _,World.ownsRow_nil _ _ _ _,World.ownsRow_nil _ _ _ _,World.ownsRow_nil _ _ _ _,World.ownsRow_nil _ _ _ _,World.ownsRow_nil _ _ _ _,World.ownsRow_nil _ _ _ _,World.ownsRow_nil _ _ _ _,
  fun _ h=>(by cases h),fun _ h=>(by cases h),fun _ h=>(by cases h),fun _ h=>(by cases h),fun _ h=>(by cases h),fun _ h=>(by cases h),Nat.zero_le _,Nat.zero_le _,Nat.zero_le _,jO,
  ⟨rfl,jO⟩,⟨rfl,jO⟩,⟨rfl,jO⟩,⟨rfl,jO⟩,⟨rfl,jO⟩,⟨rfl,jO⟩,⟨rfl,jO⟩,fun _=>rfl,fun _=>rfl⟩
def fj (Z:Int×Im) (w:World) (e:Ending) (w':World):Prop:=
 (∃x:Iv,e=.returned (.tuple #[x.val,.int .i64 Z.1])∧x.Is w' w'.heap.size Z.2∧w'.ownsRow w.heap.size 5 1 (.slice x.zs.a x.zs.n x.zs.c) Z.2.zs.length (Z.2.zs.map (Value.int .u8))∧(Z.1≠0→x=iv0))∧Below w.heap.size w w'
theorem fr22 (y:Nat→Value):af 22 y=#[y 0,y 1,y 2,y 3,y 4,y 5,y 6,y 7,y 8,y 9,y 10,y 11,y 12,y 13,y 14,y 15,y 16,y 17,y 18,y 19,y 20,y 21]:=rfl
theorem wW (y:Nat→Value) (w w5:World) (zm:Pm) (h2:y 2=.pointer (some ⟨w.heap.size,0,none⟩)) (h4:y 4=.pointer (some ⟨w.heap.size+1,0,none⟩)) (h5:y 5=.int .i64 0)
 (hres:Blk w5 w.heap.size #[.int .i64 0,.int .u64 0,.int .u64 0,.int .i64 0,.slice none 0 0,.string ⟨#[]⟩,.slice none 0 0,.slice none 0 0,.slice none 0 0,.slice none 0 0,.slice none 0 0] 32) (hbw:Below w.heap.size w w5) (p:Pz) (hp:Ps9 (w.heap.size+1) w5 p zm) :
 Code.wp Tryz.prog (aq 3 (Tryz.f10.body.getD .skip)) (bodyPost Tryz.prog Tryz.f10 (fj (0,zm.m) w)) ⟨af 22 y,[]⟩ w5:=by
 rw [fr22,h2,h4,h5];clear h2 h4 h5;conv=>arg 2;whnf
 have hlt:=hres.lt;obtain ⟨q0,q1,q2,q3,q4,q5,q6,q7,q8,q9,q10⟩:=Iv.cs hres;obtain ⟨f0,f1,f2,f3,f4,f5,f6,f7,f8,f9,f10⟩:=Iv.fs hres;have HP:=hZz hp;have hbx:=hp.box;obtain ⟨⟨k,e,s,c,⟨sga,sgn,sgc⟩,so,⟨nda,ndn,ndc⟩,⟨nma,nmn,nmc⟩,⟨sya,syn,syc⟩,⟨rla,rln,rlc⟩,⟨zsa,zsn,zsc⟩⟩,⟨fia,fin,fic⟩,⟨n0,n1,n2⟩,v0,v1,v2,v3,v4,v5,v6,⟨tba,tbn,tbc⟩⟩:=p;obtain ⟨p0,p1,p2,p3,p4,p5,p6,p7,p8,p9,p10⟩:w5.cell? ⟨w.heap.size+1,0,none⟩=some (.int .i64 k)∧w5.cell? ⟨w.heap.size+1,1,none⟩=some (.int .u64 e)∧w5.cell? ⟨w.heap.size+1,2,none⟩=some (.int .u64 s)∧w5.cell? ⟨w.heap.size+1,3,none⟩=some (.int .i64 c)∧w5.cell? ⟨w.heap.size+1,4,none⟩=some (.slice sga sgn sgc)∧w5.cell? ⟨w.heap.size+1,5,none⟩=some (.string so)∧w5.cell? ⟨w.heap.size+1,6,none⟩=some (.slice nda ndn ndc)∧w5.cell? ⟨w.heap.size+1,7,none⟩=some (.slice nma nmn nmc)∧w5.cell? ⟨w.heap.size+1,8,none⟩=some (.slice sya syn syc)∧w5.cell? ⟨w.heap.size+1,9,none⟩=some (.slice rla rln rlc)∧w5.cell? ⟨w.heap.size+1,10,none⟩=some (.slice zsa zsn zsc):=⟨hbx.cell 0,hbx.cell 1,hbx.cell 2,hbx.cell 3,hbx.cell 4,hbx.cell 5,hbx.cell 6,hbx.cell 7,hbx.cell 8,hbx.cell 9,hbx.cell 10⟩
 have hgl:=hbx.lt;have h11:=hres.eleven (.int .i64 k) (.int .u64 e) (.int .u64 s) (.int .i64 c) (.slice sga sgn sgc) (.string so) (.slice nda ndn ndc) (.slice nma nmn nmc) (.slice sya syn syc) (.slice rla rln rlc) (.slice zsa zsn zsc);obtain ⟨z0,z1,z2,z3,z4,z5,z6,z7,z8,z9,z10⟩:=Iv.cs h11;have HKP:=hZz (Kp.eleven w5 w.heap.size (.int .i64 k) (.int .u64 e) (.int .u64 s) (.int .i64 c) (.slice sga sgn sgc) (.string so) (.slice nda ndn ndc) (.slice nma nmn nmc) (.slice sya syn syc) (.slice rla rln rlc) (.slice zsa zsn zsc));have HBF:=hZz (gu hbw (lZr _) (.int .i64 k) (.int .u64 e) (.int .u64 s) (.int .i64 c) (.slice sga sgn sgc) (.string so) (.slice nda ndn ndc) (.slice nma nmn nmc) (.slice sya syn syc) (.slice rla rln rlc) (.slice zsa zsn zsc));clear hres hbw hp hbx h11;go_wp2;refine bodyPost_ret (v:=.tuple #[.agg #[.int .i64 k,.int .u64 e,.int .u64 s,.int .i64 c,.slice sga sgn sgc,.string so,.slice nda ndn ndc,.slice nma nmn nmc,.slice sya syn syc,.slice rla rln rlc,.slice zsa zsn zsc],.int .i64 0]) (by simp [results,Tryz.results10,go_sem,z0,z1,z2,z3,z4,z5,z6,z7,z8,z9,z10]) rfl ?_;have hr:=HP.out.row.kp HKP.out oZm;exact ⟨⟨_,rfl,hr.is,aR hr.zs oZm,fun e=>absurd rfl e⟩,HBF.out⟩
theorem uA (y:Nat→Value) (w w5:World) (ze:Int) (hz:ze≠0) (h2:y 2=.pointer (some ⟨w.heap.size,0,none⟩)) (h4:y 4=.pointer (some ⟨w.heap.size+1,0,none⟩)) (h5:y 5=.int .i64 ze)
 (hres:Blk w5 w.heap.size #[.int .i64 0,.int .u64 0,.int .u64 0,.int .i64 0,.slice none 0 0,.string ⟨#[]⟩,.slice none 0 0,.slice none 0 0,.slice none 0 0,.slice none 0 0,.slice none 0 0] 32) (hbw:Below w.heap.size w w5) :
 Code.wp Tryz.prog (aq 3 (Tryz.f10.body.getD .skip)) (bodyPost Tryz.prog Tryz.f10 (fj (ze,im0) w)) ⟨af 22 y,[]⟩ w5:=by
 rw [fr22,h2,h4,h5];clear h2 h4 h5;conv=>arg 2;whnf
 have hlt:=hres.lt;obtain ⟨q0,q1,q2,q3,q4,q5,q6,q7,q8,q9,q10⟩:=Iv.cs hres;obtain ⟨f0,f1,f2,f3,f4,f5,f6,f7,f8,f9,f10⟩:=Iv.fs hres;have hzb:(ze != 0)=true:=by rw [bne_iff_ne];exact hz
 obtain ⟨z0,z1,z2,z3,z4,z5,z6,z7,z8,z9,z10⟩:=Iv.cs (hres.eleven (.int .i64 0) (.int .u64 0) (.int .u64 0) (.int .i64 0) (.slice none 0 0) (.string ⟨#[]⟩) (.slice none 0 0) (.slice none 0 0) (.slice none 0 0) (.slice none 0 0) (.slice none 0 0));have HBF:=hZz (gu hbw (lZr _) (.int .i64 0) (.int .u64 0) (.int .u64 0) (.int .i64 0) (.slice none 0 0) (.string ⟨#[]⟩) (.slice none 0 0) (.slice none 0 0) (.slice none 0 0) (.slice none 0 0) (.slice none 0 0));clear hres hbw;go_wp2;refine bodyPost_ret (v:=.tuple #[.agg #[.int .i64 0,.int .u64 0,.int .u64 0,.int .i64 0,.slice none 0 0,.string ⟨#[]⟩,.slice none 0 0,.slice none 0 0,.slice none 0 0,.slice none 0 0,.slice none 0 0],.int .i64 ze]) (by simp [results,Tryz.results10,go_sem,z0,z1,z2,z3,z4,z5,z6,z7,z8,z9,z10]) rfl ?_;exact ⟨⟨iv0,rfl,wJ _ _,World.ownsRow_nil _ _ _ _,fun _=>rfl⟩,HBF.out⟩
theorem wO (x:List Value) (hx:x.length=22) (w w5:World) (ze:Int) (zm:Pm) (h2:x.getD 2 undef=.pointer (some ⟨w.heap.size,0,none⟩)) (h4:x.getD 4 undef=.pointer (some ⟨w.heap.size+1,0,none⟩)) (h5:x.getD 5 undef=.int .i64 ze)
 (hres:Blk w5 w.heap.size #[.int .i64 0,.int .u64 0,.int .u64 0,.int .i64 0,.slice none 0 0,.string ⟨#[]⟩,.slice none 0 0,.slice none 0 0,.slice none 0 0,.slice none 0 0,.slice none 0 0] 32) (hbw:Below w.heap.size w w5) (hst:ze=0→∃p,Ps9 (w.heap.size+1) w5 p zm) :
 Code.wp Tryz.prog (aq 3 (Tryz.f10.body.getD .skip)) (bodyPost Tryz.prog Tryz.f10 (fj (ze,if ze=0 then zm.m else im0) w)) ⟨x.toArray,[]⟩ w5:=by
 rw [ap x,hx];by_cases hz:ze=0
 ·subst hz;obtain ⟨p,hp⟩:=hst rfl;rw [if_pos rfl];exact wW (fun t=>x.getD t undef) w w5 zm h2 h4 h5 hres hbw p hp
 ·rw [if_neg hz];exact uA (fun t=>x.getD t undef) w w5 ze hz h2 h4 h5 hres hbw
theorem nI (B:Nat) (a:Option Addr) (len cap:Nat) (zs:List Int) (w:World) (hb:Bys w B a len zs) (hB:B≤w.heap.size) (hcap:len≤cap) (hcm:(cap:Int)≤9223372036854775807) (hnil:a=none→cap=0) :
 Calls Tryz.prog 10 #[.slice a len cap] w (fj ((cS iK (pm0 zs)).1,if (cS iK (pm0 zs)).1=0 then (cS iK (pm0 zs)).2.m else im0) w):=by
 have HST0:Hid (Ps9 (w.heap.size+1) ((w.alloc (.cells #[.int .i64 0,.int .u64 0,.int .u64 0,.int .i64 0,.slice none 0 0,.string ⟨#[]⟩,.slice none 0 0,.slice none 0 0,.slice none 0 0,.slice none 0 0,.slice none 0 0] 32)).alloc (.cells #[.int .i64 0,.int .u64 0,.int .u64 0,.int .i64 0,.slice none 0 0,.string ⟨#[]⟩,.slice none 0 0,.slice none 0 0,.slice none 0 0,.slice none 0 0,.slice none 0 0,.slice a len cap,.slice none 0 0,.int .u64 0,.int .u64 0,.int .u64 0,.int .u64 0,.int .u64 0,.int .u64 0,.int .u64 0,.slice none 0 0] 72)) ⟨iv0,⟨a,len,cap⟩,Sh.zero,0,0,0,0,0,0,0,Sh.zero⟩ (pm0 zs)):=hZz (by
  have hbl:Below w.heap.size w ((w.alloc (.cells #[.int .i64 0,.int .u64 0,.int .u64 0,.int .i64 0,.slice none 0 0,.string ⟨#[]⟩,.slice none 0 0,.slice none 0 0,.slice none 0 0,.slice none 0 0,.slice none 0 0] 32)).alloc (.cells #[.int .i64 0,.int .u64 0,.int .u64 0,.int .i64 0,.slice none 0 0,.string ⟨#[]⟩,.slice none 0 0,.slice none 0 0,.slice none 0 0,.slice none 0 0,.slice none 0 0,.slice a len cap,.slice none 0 0,.int .u64 0,.int .u64 0,.int .u64 0,.int .u64 0,.int .u64 0,.int .u64 0,.int .u64 0,.slice none 0 0] 72)):=((Below.refl _ _).alloc (lZr _) _).alloc (by simp) _;refine ⟨?_,prow0 _ _ _ _ _ _,(hb.below (hbl.mono hB)).more oZm,⟨hcap,hcm⟩,hnil⟩;have:=Blk.new (w.alloc (.cells #[.int .i64 0,.int .u64 0,.int .u64 0,.int .i64 0,.slice none 0 0,.string ⟨#[]⟩,.slice none 0 0,.slice none 0 0,.slice none 0 0,.slice none 0 0,.slice none 0 0] 32)) #[.int .i64 0,.int .u64 0,.int .u64 0,.int .i64 0,.slice none 0 0,.string ⟨#[]⟩,.slice none 0 0,.slice none 0 0,.slice none 0 0,.slice none 0 0,.slice none 0 0,.slice a len cap,.slice none 0 0,.int .u64 0,.int .u64 0,.int .u64 0,.int .u64 0,.int .u64 0,.int .u64 0,.int .u64 0,.slice none 0 0] 72;rw [World.size_alloc] at this;exact this)
 have HRUN:=hZz (vC (w.heap.size+1) _ (w.heap.size+1+1) (by simp) _ _ HST0.out ⟨rfl,rfl⟩);have HR0:Hid (Blk ((w.alloc (.cells #[.int .i64 0,.int .u64 0,.int .u64 0,.int .i64 0,.slice none 0 0,.string ⟨#[]⟩,.slice none 0 0,.slice none 0 0,.slice none 0 0,.slice none 0 0,.slice none 0 0] 32)).alloc (.cells #[.int .i64 0,.int .u64 0,.int .u64 0,.int .i64 0,.slice none 0 0,.string ⟨#[]⟩,.slice none 0 0,.slice none 0 0,.slice none 0 0,.slice none 0 0,.slice none 0 0,.slice a len cap,.slice none 0 0,.int .u64 0,.int .u64 0,.int .u64 0,.int .u64 0,.int .u64 0,.int .u64 0,.int .u64 0,.slice none 0 0] 72)) w.heap.size #[.int .i64 0,.int .u64 0,.int .u64 0,.int .i64 0,.slice none 0 0,.string ⟨#[]⟩,.slice none 0 0,.slice none 0 0,.slice none 0 0,.slice none 0 0,.slice none 0 0] 32):=hZz ((Blk.new w _ _).alloc _);have HB0:Hid (Below w.heap.size w ((w.alloc (.cells #[.int .i64 0,.int .u64 0,.int .u64 0,.int .i64 0,.slice none 0 0,.string ⟨#[]⟩,.slice none 0 0,.slice none 0 0,.slice none 0 0,.slice none 0 0,.slice none 0 0] 32)).alloc (.cells #[.int .i64 0,.int .u64 0,.int .u64 0,.int .i64 0,.slice none 0 0,.string ⟨#[]⟩,.slice none 0 0,.slice none 0 0,.slice none 0 0,.slice none 0 0,.slice none 0 0,.slice a len cap,.slice none 0 0,.int .u64 0,.int .u64 0,.int .u64 0,.int .u64 0,.int .u64 0,.int .u64 0,.int .u64 0,.slice none 0 0] 72))):=hZz (((Below.refl _ _).alloc (lZr _) _).alloc (by simp) _);generalize cS iK (pm0 zs)=Z at HRUN;obtain ⟨ze,zm⟩:=Z;simp only at HRUN⊢;obtain ⟨zi,hzi⟩:∃zi,(if ze=0 then zm.m else im0)=zi:=⟨_,rfl⟩
 rw [hzi];have HZI:=hZz hzi;clear hb hnil hzi;go_enter Tryz.func10,Tryz.ntmps10
 go_upto_region 2 with (refine oP 72 _ #[.int .i64 0,.int .u64 0,.int .u64 0,.int .i64 0,.slice none 0 0,.string ⟨#[]⟩,.slice none 0 0,.slice none 0 0,.slice none 0 0,.slice none 0 0,.slice none 0 0,.slice a len cap,.slice none 0 0,.int .u64 0,.int .u64 0,.int .u64 0,.int .u64 0,.int .u64 0,.int .u64 0,.int .u64 0,.slice none 0 0] #[.int .i64 0,.int .u64 0,.int .u64 0,.int .i64 0,.slice none 0 0,.string ⟨#[]⟩,.slice none 0 0,.slice none 0 0,.slice none 0 0,.slice none 0 0,.slice none 0 0,.slice none 0 0,.slice none 0 0,.int .u64 0,.int .u64 0,.int .u64 0,.int .u64 0,.int .u64 0,.int .u64 0,.int .u64 0,.slice none 0 0] _ _ rfl rfl rfl rfl rfl rfl (by kernel_rfl) (by kernel_rfl) (by kernel_rfl) rfl (by kernel_rfl) rfl rfl ?_;go_simp)
 go_cut [5] (fun v wx=>v=.int .i64 ze∧(ze=0→∃p,Ps9 (w.heap.size+1) wx p zm)∧Blk wx w.heap.size #[.int .i64 0,.int .u64 0,.int .u64 0,.int .i64 0,.slice none 0 0,.string ⟨#[]⟩,.slice none 0 0,.slice none 0 0,.slice none 0 0,.slice none 0 0,.slice none 0 0] 32∧Below w.heap.size w wx)
 case first=>
  go_wp2_with fail;refine HRUN.out.mono ?_;rintro r w5 ⟨rfl,hst,hkq⟩;have HRES:=hZz (HR0.out.below hkq.bel (Nat.lt_succ_self _));have HBW:Hid (Below w.heap.size w w5):=hZz (HB0.out.trans (hkq.bel.mono (Nat.le_succ _)));have HST:=hZz hst;clear hst hkq HRUN HST0 HR0 HB0;go_wp2;go_meet
  case rel=>exact ⟨rfl,HST.out,HRES.out,HBW.out⟩
 case rest=>
  obtain ⟨rfl,hst,hres,hbw⟩:=hcut;rename_i KK hKK;refine hKK _ _ ?_;rw [←HZI.out];exact wO _ rfl w _ ze zm rfl rfl rfl hres hbw hst
theorem bS {f:Pm→Int×Pm} {fs:List (Pm→Int×Pm)} {m:Pm} (h:(f m).1≠0):cS (f :: fs) m=f m:=by rw [cS,if_pos h]
theorem dG {f:Pm→Int×Pm} {fs:List (Pm→Int×Pm)} {m:Pm} (h:(f m).1=0):cS (f :: fs) m=cS fs (f m).2:=by rw [cS,if_neg (by rw [h];decide)]
theorem qB (m:Pm):cS [] m=(0,m):=rfl
theorem vV {l:List Int} (h:∀n∈l,0≤n∧n≤255):0≤num l:=(oR h).1
theorem pJ {zs:List Int} (hz:∀n∈zs,0≤n∧n≤255):∀(f k:Nat) (s:StD),(∀x∈s.v,0≤x)→∀x∈(eM zs f k s).2.v,0≤x
 | 0,k,s,h=>by simp [eM,dq]
 | f+1,k,s,h=>by
   have hv:0≤fF zs k:=vV (ex hz);unfold eM;split
   ·simp [dq]
   ·split
    ·split
     ·exact h
     ·simp [dq]
    ·split
     ·exact pJ hz f (k+1) ⟨s.nd++[fF zs k],s.v,s.seen⟩ h
     ·split
      ·simp [dq]
      ·split
       ·simp [dq]
       ·rename_i i _ _;refine pJ hz f (k+1) ⟨s.nd,s.v.set i (fF zs k),s.seen.set i true⟩ (fun x hx=>?_);rcases List.mem_or_eq_of_mem_set hx with h1 | h1
        ·exact h x h1
        ·rw [h1];exact hv
theorem uZ {zs:List Int} (hz:∀n∈zs,0≤n∧n≤255) (i:Nat):0≤(dS zs).2.v.getD i 0:=by
 have h:=pJ hz (zs.length+1) 0 dq (by simp [dq]);unfold dS;rw [gZe];by_cases hi:i<(eM zs (zs.length+1) 0 dq).2.v.length
 ·rw [gZg hi];exact h _ (List.getElem_mem hi)
 ·rw [List.getElem?_eq_none (by omega)];simp
theorem oH {L:List Sg} {zs:List Int} {a s:Int} (h:(aH L zs a s).1=0) (s0:0≤s):(aH L zs a s).2.length=s.toNat:=by
 unfold aH at h⊢;by_cases h1:(dr L a s).1≠0
 ·rw [if_pos h1] at h;exact absurd h h1
 ·rw [if_neg h1] at h⊢;unfold fm at h⊢;have hb:=(jz L a s).1;by_cases h2:(zs.length:Int)<(dr L a s).2+s
  ·rw [if_pos h2] at h;cases h
  ·rw [if_neg h2];exact cB oZm
theorem vM {L:List Sg} {zs:List Int} {a n:Int} (h:(aH L zs a (24*n)).1=0) (n0:0≤n):(el (aH L zs a (24*n)).2).1=0:=by
 have:=oH h oZm;unfold el;rw [if_pos (by rw [this];omega)]
theorem qL {L:List Sy} (h:dC L≠0):dC L=11:=by
 unfold dC at h⊢;split
 ·rfl
 ·rw [if_neg ‹_›] at h;exact absurd rfl h
theorem wD {t:List Int} (h:chk t≠0):chk t=11:=by
 unfold chk at h⊢;split
 ·rfl
 ·rw [if_neg ‹_›] at h;exact absurd rfl h
theorem rJ {zs:List Int} (h:dD zs=true):kOf zs=2∨kOf zs=3∨kOf zs=4:=by
 unfold dD at h;rw [Bool.and_eq_true] at h;obtain ⟨h1,h2,-,-⟩:=dF.1 h.1;omega
def EqI (m:Pm) (Z:Int×Pm) (N:Int×Na):Prop:=Z.1=N.1∧(N.1=0→Z.2.m={ m.m with so:=N.2.so,nd:=N.2.nd,nm:=N.2.nm,sy:=N.2.sy,rl:=N.2.rl })
theorem EqI.err {m:Pm} {Z:Int×Pm} {N:Int×Na} (h:Z.1=N.1) (h0:N.1≠0):EqI m Z N:=⟨h,fun e=>absurd e h0⟩
theorem sO (m:Pm) (V:List Int) (h5:m.rt=V.getD 5 0) (h6:m.rz=V.getD 6 0) (hr:m.m.rl=[]) (v6:0≤V.getD 6 0) :
 EqI m (cS [rI] m) (lL m.m.sg m.m.zs V m.m.so m.m.nd m.m.nm m.m.sy):=by
 have e:cS [rI] m=rI m∨cS [rI] m=(0,(rI m).2)∧(rI m).1=0:=by
  by_cases h:(rI m).1=0
  ·right;rw [dG h,qB];exact ⟨rfl,h⟩
  ·left;exact bS h
 have e1:cS [rI] m=rI m:=by
  rcases e with e | ⟨e,h⟩
  ·exact e
  ·rw [e,←h]
 rw [e1];unfold EqI lL rI;rw [h5,h6];by_cases c1:V.getD 6 0=0
 ·rw [if_pos c1,if_neg oZm,if_pos (by omega)];exact ⟨rfl,fun _=>by rw [←hr]⟩
 ·rw [if_neg c1];by_cases c2:65536<V.getD 6 0
  ·rw [if_pos c2,if_pos c2];exact ⟨rfl,fun h=>by cases h⟩
  ·rw [if_neg c2,if_neg c2,if_neg (show ¬V.getD 6 0≤0 by omega)];by_cases c3:(aH m.m.sg m.m.zs (V.getD 5 0) (V.getD 6 0)).1≠0
   ·rw [if_pos c3,if_pos c3];exact ⟨rfl,fun h=>absurd h c3⟩
   ·rw [if_neg c3,if_neg c3];simp only
    by_cases c4:(fq (aH m.m.sg m.m.zs (V.getD 5 0) (V.getD 6 0)).2).1≠0
    ·rw [if_pos c4,if_pos c4];exact ⟨rfl,fun h=>absurd h c4⟩
    ·rw [if_neg c4,if_neg c4];exact ⟨rfl,fun _=>rfl⟩
theorem uV (m:Pm) (V:List Int) (h3:m.yt=V.getD 3 0) (h4:m.yn=V.getD 4 0) (h5:m.rt=V.getD 5 0) (h6:m.rz=V.getD 6 0) (hn:m.m.nm=[]) (hy:m.m.sy=[]) (hr:m.m.rl=[]) (v4:0≤V.getD 4 0) (v6:0≤V.getD 6 0) :
 EqI m (cS [yI,nmI,rI] m) (nB m.m.sg m.m.zs V m.t m.m.so m.m.nd):=by
 unfold nB;by_cases c1:V.getD 4 0=0
 ·rw [if_neg oZm,if_pos (by omega)];have e1:yI m=(0,m):=by unfold yI;rw [h4,if_pos c1]
  rw [dG (by rw [e1]),e1];have e2:nmI m=(0,m):=by
   have hz:bx m.t m.m.sy=(0,[]):=by rw [hy];rfl
   unfold nmI;rw [hz];simp only [ne_eq,not_true_eq_false,if_false];rw [←hn]
  rw [dG (by rw [e2]),e2];have:=sO m V h5 h6 hr v6;rw [hn,hy] at this;exact this
 ·by_cases c2:1024<V.getD 4 0
  ·rw [if_pos c2];have e1:yI m=(13,m):=by unfold yI;rw [h4,if_neg c1,if_pos c2]
   rw [bS (by rw [e1];exact (by decide:(13:Int)≠0)),e1];exact EqI.err rfl dZc
  ·rw [if_neg c2,if_neg (show ¬V.getD 4 0≤0 by omega)];have hq:=fun h=>@vM m.m.sg m.m.zs (V.getD 3 0) (V.getD 4 0) h v4;generalize hB:aH m.m.sg m.m.zs (V.getD 3 0) (24*V.getD 4 0)=B at hq⊢;by_cases c3:B.1≠0
   ·rw [if_pos c3];have e1:yI m=(B.1,m):=by unfold yI;rw [h4,h3,if_neg c1,if_neg c2,hB,if_pos c3]
    rw [bS (by rw [e1];exact c3),e1];exact EqI.err rfl c3
   ·rw [if_neg c3];have hq0:=hq (by simpa using c3);have e1:yI m=(dC (el B.2).2,{ m with m:={ m.m with sy:=(el B.2).2 } }):=by
     unfold yI;rw [h4,h3,if_neg c1,if_neg c2,hB,if_neg c3];simp only
     rw [if_neg (by rw [hq0];decide)]
    generalize (el B.2).2=Y at e1⊢;by_cases c4:dC Y≠0
    ·rw [if_pos c4,bS (by rw [e1];exact c4),e1];exact EqI.err (qL c4) dZc
    ·rw [if_neg c4,dG (by rw [e1];simpa using c4),e1];simp only
     by_cases c5:(bx m.t Y).1≠0
     ·rw [if_pos c5];have e2:nmI { m with m:={ m.m with sy:=Y } }=((bx m.t Y).1,{ m with m:={ m.m with sy:=Y } }):=by unfold nmI;rw [if_pos c5]
      rw [bS (by rw [e2];exact c5),e2];exact EqI.err rfl c5
     ·rw [if_neg c5];have e2:nmI { m with m:={ m.m with sy:=Y } }=(0,{ m with m:={ m.m with sy:=Y,nm:=(bx m.t Y).2 } }):=by unfold nmI;rw [if_neg c5]
      rw [dG (by rw [e2]),e2];exact sO { m with m:={ m.m with sy:=Y,nm:=(bx m.t Y).2 } } V h5 h6 hr v6
theorem nW (m:Pm) (V N:List Int) (hN:m.N=N) (h3:m.yt=V.getD 3 0) (h4:m.yn=V.getD 4 0) (h5:m.rt=V.getD 5 0) (h6:m.rz=V.getD 6 0) (hn:m.m.nm=[]) (hy:m.m.sy=[]) (hr:m.m.rl=[]) (v4:0≤V.getD 4 0) (v6:0≤V.getD 6 0) :
 EqI m (cS [ndI,yI,nmI,rI] m) (lu m.m.sg m.m.zs V N m.t m.m.so):=by
 unfold lu;by_cases c:(bX m.t N).1≠0
 ·rw [if_pos c];have e:ndI m=((bX m.t N).1,m):=by unfold ndI;rw [hN,if_pos c]
  rw [bS (by rw [e];exact c),e];exact EqI.err rfl c
 ·rw [if_neg c];have e:ndI m=(0,{ m with m:={ m.m with nd:=(bX m.t N).2 } }):=by unfold ndI;rw [hN,if_neg c]
  rw [dG (by rw [e]),e];exact uV { m with m:={ m.m with nd:=(bX m.t N).2 } } V h3 h4 h5 h6 hn hy hr v4 v6
theorem wu (m:Pm) (V N:List Int) (hN:m.N=N) (h0:m.so=V.getD 0 0) (h3:m.yt=V.getD 3 0) (h4:m.yn=V.getD 4 0) (h5:m.rt=V.getD 5 0) (h6:m.rz=V.getD 6 0) (hs:m.m.so=.empty) (hn:m.m.nm=[]) (hy:m.m.sy=[]) (hr:m.m.rl=[]) (v4:0≤V.getD 4 0) (v6:0≤V.getD 6 0) :
 EqI m (cS [soI,ndI,yI,nmI,rI] m) (uQ m.m.sg m.m.zs V N m.t):=by
 unfold uQ;by_cases c:V.getD 0 0=0
 ·rw [if_pos c];have e:soI m=(0,m):=by unfold soI;rw [h0,if_pos c]
  rw [dG (by rw [e]),e];have:=nW m V N hN h3 h4 h5 h6 hn hy hr v4 v6;rw [hs] at this;exact this
 ·rw [if_neg c];have e:soI m=((atN m.t (V.getD 0 0)).1,{ m with m:={ m.m with so:=(atN m.t (V.getD 0 0)).2 } }):=by unfold soI;rw [h0,if_neg c]
  by_cases c2:(atN m.t (V.getD 0 0)).1≠0
  ·rw [if_pos c2,bS (by rw [e];exact c2),e];exact EqI.err rfl c2
  ·rw [if_neg c2,dG (by rw [e];simpa using c2),e];exact nW { m with m:={ m.m with so:=(atN m.t (V.getD 0 0)).2 } } V N hN h3 h4 h5 h6 hn hy hr v4 v6
theorem ve (m:Pm) (V N:List Int) (hN:m.N=N) (h0:m.so=V.getD 0 0) (h1:m.st=V.getD 1 0) (h2:m.sz=V.getD 2 0) (h3:m.yt=V.getD 3 0) (h4:m.yn=V.getD 4 0) (h5:m.rt=V.getD 5 0) (h6:m.rz=V.getD 6 0) (hs:m.m.so=.empty) (hn:m.m.nm=[]) (hy:m.m.sy=[]) (hr:m.m.rl=[]) (v4:0≤V.getD 4 0) (v6:0≤V.getD 6 0) :
 EqI m (cS gR m) (qC m.m.sg m.m.zs V N):=by
 unfold qC gR;generalize hB:aH m.m.sg m.m.zs (V.getD 1 0) (V.getD 2 0)=B;by_cases c:B.1≠0
 ·rw [if_pos c];have e:fO m=(B.1,m):=by unfold fO;rw [h1,h2,hB,if_pos c]
  rw [bS (by rw [e];exact c),e];exact EqI.err rfl c
 ·rw [if_neg c];have e:fO m=(chk B.2,{ m with t:=B.2 }):=by unfold fO;rw [h1,h2,hB,if_neg c]
  by_cases c2:chk B.2≠0
  ·rw [if_pos c2,bS (by rw [e];exact c2),e];exact EqI.err (wD c2) dZc
  ·rw [if_neg c2,dG (by rw [e];simpa using c2),e];exact wu { m with t:=B.2 } V N hN h0 h3 h4 h5 h6 hs hn hy hr v4 v6
def gH (L:List Sg) (zs:List Int):Int×Na:=match L.find? (bC 2) with
 | none=>(0,na0)
 | some d=>jF L zs d
theorem vP (m:Pm) (hz:∀n∈m.m.zs,0≤n∧n≤255) (hs:m.m.so=.empty) (hd:m.m.nd=[]) (hn:m.m.nm=[]) (hy:m.m.sy=[]) (hr:m.m.rl=[]):EqI m (nx m) (gH m.m.sg m.m.zs):=by
 unfold nx gH;cases hf:m.m.sg.find? (bC 2) with
 | none=>
   refine ⟨rfl,fun _=>?_⟩;have h:m.m=⟨m.m.k,m.m.e,m.m.s,m.m.c,m.m.sg,m.m.so,m.m.nd,m.m.nm,m.m.sy,m.m.rl,m.m.zs⟩:=rfl;exact h.trans (by rw [hs,hd,hn,hy,hr];rfl)
 | some d=>
   simp only
   unfold jF;have hv:=fun i=>uZ (mq hz d.ot d.fi) i;generalize dS (fm m.m.zs d.ot d.fi).2=D at hv⊢;by_cases c:D.1≠0
   ·rw [if_pos c,if_pos c];exact EqI.err rfl c
   ·rw [if_neg c,if_neg c];exact ve { m with N:=D.2.nd,so:=D.2.v.getD 0 0,st:=D.2.v.getD 1 0,sz:=D.2.v.getD 2 0,yt:=D.2.v.getD 3 0,yn:=D.2.v.getD 4 0,rt:=D.2.v.getD 5 0,rz:=D.2.v.getD 6 0 } D.2.v D.2.nd rfl rfl rfl rfl rfl rfl rfl rfl hs hn hy hr (hv 4) (hv 6)
theorem in_eq {s:Sg} {r:Rl} (hs:s.Ok) (hr:r.Ok) (h:s.ty=1→s.va≤4294967296∧s.me≤4294967296-s.va):inC r.of s=inI r s:=by
 unfold inC inI;rw [decide_eq_decide];have h1:=hs.va;have h2:=hs.me;have h3:=hr.of;constructor
 ·rintro ⟨a,b,c,d⟩;have:=h a;refine ⟨a,c,?_,?_⟩
  ·rw [IntKind.wrap_u64];omega
  ·rw [IntKind.wrap_u64,IntKind.wrap_u64];omega
 ·rintro ⟨a,b,c,d⟩;have:=h a;rw [IntKind.wrap_u64] at c;rw [IntKind.wrap_u64,IntKind.wrap_u64] at d;exact ⟨a,by omega,b,by omega⟩
theorem ok_eq {L:List Sg} {r:Rl} {n:Int} (hL:∀s∈L,s.Ok) (hr:r.Ok) (h:bZ L n=0):okC L r=mY L r:=by
 unfold okC mY
 congr 1
 rw [Bool.eq_iff_iff,List.any_eq_true,List.any_eq_true];have e:∀s∈L,inC r.of s=inI r s:=by
  intro s hs;refine in_eq (hL s hs) hr (fun h1=>?_);obtain ⟨k,hk,rfl⟩:=List.getElem_of_mem hs;have:=(uu (np (vi h k hk))).va;rw [gZe,gZg hk] at this;exact this (by rw [show ((some L[k]).getD sg0)=L[k] from rfl,h1];decide)
 constructor
 ·rintro ⟨s,hs,h1⟩;exact ⟨s,hs,by rw [←e s hs];exact h1⟩
 ·rintro ⟨s,hs,h1⟩;exact ⟨s,hs,by rw [e s hs];exact h1⟩
theorem wB {α:Type} {p q:α→Bool} {L:List α} (h:∀x∈L,p x=q x):L.any p=L.any q:=by
 rw [Bool.eq_iff_iff,List.any_eq_true,List.any_eq_true];constructor
 ·rintro ⟨s,hs,h1⟩;exact ⟨s,hs,by rw [←h s hs];exact h1⟩
 ·rintro ⟨s,hs,h1⟩;exact ⟨s,hs,by rw [h s hs];exact h1⟩
theorem pR {L:List Sg} {zs:List Int} (h:∀n∈zs,0≤n∧n≤255) (a s:Int):∀n∈(aH L zs a s).2,0≤n∧n≤255:=hG h _ _ _
theorem xk {L:List Sg} {zs:List Int} (hz:∀n∈zs,0≤n∧n≤255):∀s∈(gH L zs).2.rl,s.Ok:=by
 have h0:∀s∈na0.rl,s.Ok:=fun s hs=>by cases hs
 have hR:∀V so nd nm sy,∀s∈(lL L zs V so nd nm sy).2.rl,s.Ok:=by
  intro V so nd nm sy;unfold lL;repeat' split
  all_goals first | exact h0 | (intro s hs;cases hs) | exact qc (pR hz _ _)
 have hY:∀V t so nd,∀s∈(nB L zs V t so nd).2.rl,s.Ok:=by
  intro V t so nd;unfold nB;repeat' split
  all_goals first | exact h0 | exact hR _ _ _ _ _
 unfold gH;cases L.find? (bC 2) with
 | none=>exact h0
 | some d=>
   unfold jF qC uQ lu;simp only
   repeat' split
   all_goals first | exact h0 | exact hY _ _ _ _
theorem qQ {m:Pm} {L:List Sg} {n:Int} (hg:m.m.sg=L) (hL:∀s∈L,s.Ok) (hr:∀r∈m.m.rl,r.Ok) (h:bZ L n=0) :
 (cS [crI,csI] m).1=jV L m.m.sy m.m.rl∧(cS [crI,csI] m).2=m:=by
 have e:m.m.rl.any (fun r=>!okC m.m.sg r)=m.m.rl.any (fun r=>!mY L r):=wB (fun r hr'=>by rw [hg,ok_eq hL (hr r hr') h]);unfold jV;by_cases c:m.m.rl.any (fun r=>!mY L r)=true
 ·have e1:crI m=(40,m):=by unfold crI;rw [e,if_pos c]
  rw [if_pos c,bS (by rw [e1];exact (by decide:(40:Int)≠0)),e1];exact ⟨rfl,rfl⟩
 ·have e1:crI m=(0,m):=by unfold crI;rw [e,if_neg c]
  rw [if_neg c,dG (by rw [e1]),e1];have e2:csI m=(il (L.find? (bC 7)) m.m.sy,m):=by unfold csI;rw [hg]
  by_cases c2:il (L.find? (bC 7)) m.m.sy≠0
  ·rw [bS (by rw [e2];exact c2),e2];exact ⟨rfl,rfl⟩
  ·rw [dG (by rw [e2];simpa using c2),e2,qB];exact ⟨by simpa using (Classical.not_not.1 c2).symm,rfl⟩
theorem uk (zs:List Int) (hz:∀n∈zs,0≤n∧n≤255):((cS iK (pm0 zs)).1,if (cS iK (pm0 zs)).1=0 then (cS iK (pm0 zs)).2.m else im0)=fN zs:=by
 unfold fN iK;have err:∀(Z:Int×Pm) (e:Int),Z.1=e→e≠0→((Z.1,if Z.1=0 then Z.2.m else im0):Int×Im)=(e,im0):=fun Z e h h0=>by rw [h,if_neg h0]
 by_cases c1:65536<zs.length
 ·rw [if_pos c1];have e1:iP (pm0 zs)=(13,pm0 zs):=by unfold iP;exact if_pos c1
  rw [bS (by rw [e1];exact (by decide:(13:Int)≠0)),e1];exact err _ 13 rfl dZc
 rw [if_neg c1];have e1:iP (pm0 zs)=(0,{ pm0 zs with m:={ im0 with zs:=zs } }):=by unfold iP;exact if_neg c1
 rw [dG (by rw [e1]),e1];simp only
 obtain ⟨m1,hm1⟩:∃m1:Pm,({ pm0 zs with m:={ im0 with zs:=zs } }:Pm)=m1:=⟨_,rfl⟩
 rw [hm1];have hmz:m1.m.zs=zs:=by rw [←hm1]
 by_cases c2:zs.length<64
 ·rw [if_pos c2];have e2:fv m1=(10,m1):=by unfold fv;rw [hmz,if_pos c2]
  rw [bS (by rw [e2];exact (by decide:(10:Int)≠0)),e2];exact err _ 10 rfl dZc
 rw [if_neg c2];by_cases c3:dD zs=false
 ·rw [if_pos c3];have e2:fv m1=(11,m1):=by unfold fv;rw [hmz,if_neg c2,if_pos c3]
  rw [bS (by rw [e2];exact (by decide:(11:Int)≠0)),e2];exact err _ 11 rfl dZc
 rw [if_neg c3];have hk:=rJ (by simpa using c3);by_cases c4:kOf zs=4
 ·rw [if_pos c4];have e2:fv m1=(11,m1):=by unfold fv;rw [hmz,if_neg c2,if_neg c3,if_neg (by omega)]
  rw [bS (by rw [e2];exact (by decide:(11:Int)≠0)),e2];exact err _ 11 rfl dZc
 rw [if_neg c4];have e2:fv m1=(0,{ m1 with m:={ m1.m with k:=kOf zs,e:=eOf zs,s:=sOf zs,c:=cOf zs } }):=by unfold fv;rw [hmz,if_neg c2,if_neg c3,if_pos (by omega)]
 rw [dG (by rw [e2]),e2];simp only
 obtain ⟨m2,hm2⟩:∃m2:Pm,({ m1 with m:={ m1.m with k:=kOf zs,e:=eOf zs,s:=sOf zs,c:=cOf zs } }:Pm)=m2:=⟨_,rfl⟩
 rw [hm2];have hz2:m2.m.zs=zs∧m2.m.s=sOf zs∧m2.m.c=cOf zs:=by rw [←hm2];exact ⟨hmz,rfl,rfl⟩
 obtain ⟨a1,a2,a3⟩:=hz2;have hTok:∀s∈(bg zs (sOf zs) (cOf zs)).2,s.Ok:=(kB hz (pX hz oZm).1).1;generalize hT:bg zs (sOf zs) (cOf zs)=T at hTok⊢;by_cases c5:T.1≠0
 ·rw [if_pos c5];have e3:eF m2=(T.1,m2):=by unfold eF;rw [a1,a2,a3,hT,if_pos c5]
  rw [bS (by rw [e3];exact c5),e3];exact err _ T.1 rfl c5
 rw [if_neg c5];by_cases c6:bZ T.2 zs.length≠0
 ·rw [if_pos c6];have e3:eF m2=(bZ T.2 zs.length,m2):=by unfold eF;rw [a1,a2,a3,hT,if_neg c5,if_pos c6]
  rw [bS (by rw [e3];exact c6),e3];exact err _ _ rfl c6
 rw [if_neg c6];by_cases c7:T.2.find? (bC 1)=none
 ·rw [if_pos c7];have e3:eF m2=(11,m2):=by unfold eF;rw [a1,a2,a3,hT,if_neg c5,if_neg c6,if_pos c7]
  rw [bS (by rw [e3];exact (by decide:(11:Int)≠0)),e3];exact err _ 11 rfl dZc
 rw [if_neg c7];have e3:eF m2=(0,{ m2 with m:={ m2.m with sg:=T.2 } }):=by unfold eF;rw [a1,a2,a3,hT,if_neg c5,if_neg c6,if_neg c7]
 rw [dG (by rw [e3]),e3];simp only
 have hm3:({ m2 with m:={ m2.m with sg:=T.2 } }:Pm)={ pm0 zs with m:=⟨kOf zs,eOf zs,sOf zs,cOf zs,T.2,.empty,[],[],[],[],zs⟩ }:=by rw [←hm2,←hm1];rfl
 rw [hm3];obtain ⟨m3,hm3'⟩:∃m3:Pm,({ pm0 zs with m:=⟨kOf zs,eOf zs,sOf zs,cOf zs,T.2,.empty,[],[],[],[],zs⟩ }:Pm)=m3:=⟨_,rfl⟩
 rw [hm3'];have hd:=vP m3 (by rw [←hm3'];exact hz) (by rw [←hm3']) (by rw [←hm3']) (by rw [←hm3']) (by rw [←hm3']) (by rw [←hm3']);rw [show m3.m.sg=T.2 by rw [←hm3'],show m3.m.zs=zs by rw [←hm3']] at hd;have hI:wT zs (kOf zs) (eOf zs) (sOf zs) (cOf zs) T.2=if (gH T.2 zs).1≠0 then ((gH T.2 zs).1,im0) else (if jV T.2 (gH T.2 zs).2.sy (gH T.2 zs).2.rl≠0 then (jV T.2 (gH T.2 zs).2.sy (gH T.2 zs).2.rl,im0) else (0,⟨kOf zs,eOf zs,sOf zs,cOf zs,T.2,(gH T.2 zs).2.so,(gH T.2 zs).2.nd,(gH T.2 zs).2.nm,(gH T.2 zs).2.sy,(gH T.2 zs).2.rl,zs⟩)):=by
  unfold wT gH;cases T.2.find? (bC 2)<;>rfl
 rw [hI];have hrl:=xk (L:=T.2) hz;generalize gH T.2 zs=N at hd hrl⊢;by_cases c8:N.1≠0
 ·rw [if_pos c8,bS (by rw [hd.1];exact c8)];exact err _ N.1 hd.1 c8
 rw [if_neg c8];have c8':N.1=0:=by simpa using c8
 rw [dG (by rw [hd.1];exact c8')];have hm4:=hd.2 c8';generalize (nx m3).2=m4 at hm4⊢;have hm4':m4.m=⟨kOf zs,eOf zs,sOf zs,cOf zs,T.2,N.2.so,N.2.nd,N.2.nm,N.2.sy,N.2.rl,zs⟩:=by rw [hm4,←hm3']
 obtain ⟨hc1,hc2⟩:=qQ (m:=m4) (L:=T.2) (n:=zs.length) (by rw [hm4']) hTok (by rw [hm4'];exact hrl) (by simpa using c6);rw [hc2,hc1,hm4'];simp only
 by_cases c9:jV T.2 N.2.sy N.2.rl≠0
 ·rw [if_pos c9,if_neg c9]
 ·rw [if_neg c9,if_pos (by simpa using c9)];have:jV T.2 N.2.sy N.2.rl=0:=by simpa using c9
  rw [this]
theorem oj (B:Nat) (a:Option Addr) (len cap:Nat) (zs:List Int) (w:World) (hb:Bys w B a len zs) (hB:B≤w.heap.size) (hcap:len≤cap) (hcm:(cap:Int)≤9223372036854775807) (hnil:a=none→cap=0) :
 Calls Tryz.prog 10 #[.slice a len cap] w (fj (fN zs) w):=by
 have:=nI B a len cap zs w hb hB hcap hcm hnil;rw [uk zs hb.2.1] at this;exact this
end Go.Proofs.YtclgbdfkdbbinaaGreat
namespace Go.Proofs.YtclgbdfkdbbinaaGreat
open Go.RowKit Go.ChangeShapes Go.WideShapes
structure Bs where
 a:Option Addr
 n:Nat
 c:Nat
 zs:List Int
def Bs.zero:Bs:=⟨none,0,0,[]⟩
structure Bs.Ok (w:World) (B:Nat) (b:Bs):Prop where
 bys:Bys w B b.a b.n b.zs
 le:b.n≤b.c
 max:(b.c:Int)≤9223372036854775807
 nil:b.a=none→b.c=0
theorem Bs.zero_ok (w:World) (B:Nat):Bs.zero.Ok w B:=⟨Bys.empty _ _ _,lZr _,by decide,fun _=>rfl⟩
theorem Bs.open {H:Type} {enc:TypeId×Value→H} {P:Program} {w:World} {base:Nat} {held:Bool} {t e:TypeId} {fuel:Nat} {cs:List Value} {x:DataW H×List MemPlace}
 (ht:P.underlying t=some (.slice e)) (he:P.underlying e=some (.int .u8)) (hc:P.cellsOf e=1) (h:DataW.trod enc P w base (fun _=>true) held fuel t cs=some x):∃b:Bs,b.Ok w w.heap.size∧cs=[.slice b.a b.n b.c]:=by
 rcases open_ints ht he hc h with ⟨hcs,_⟩ | ⟨a,len,cap,zs,hcs,_,hl,hm,hz,_,hcell,hwz⟩
 ·exact ⟨Bs.zero,Bs.zero_ok _ _,hcs⟩
 ·have hr:tf .u8 w (some a) len cap zs:=.inr ⟨a,rfl,hl,hm,by simpa using hz,hcell,hwz⟩;obtain ⟨h1,h2,h3⟩:=hr.bys;exact ⟨⟨some a,len,cap,zs.take len⟩,⟨h1,h2,h3,fun e=>by cases e⟩,hcs⟩
end Go.Proofs.YtclgbdfkdbbinaaGreat
namespace Go.Proofs.YtclgbdfkdbbinaaGreat
open Go.RowKit
structure Df where
 nm:ByteArray
 wh:Int
 of:Int
 wk:Bool
structure Df.Ok (w:World) (B:Nat) (s:Df):Prop where
 nm:s.nm.size≤maxLen
 wh:-9223372036854775808≤s.wh∧s.wh≤9223372036854775807
 of:0≤s.of∧s.of≤18446744073709551615
 wk:s.wk=s.wk
def Df.cells (s:Df):Array Value:=#[.string s.nm,.int .i64 s.wh,.int .u64 s.of,.bool s.wk]
def Df.val (s:Df):Value:=.agg #[.string s.nm,.int .i64 s.wh,.int .u64 s.of,.bool s.wk]
def Df.zero:Df:=⟨ByteArray.empty,0,0,false⟩
theorem Df.Ok.below {w w':World} {B:Nat} {s:Df} (h:s.Ok w B) (hb:Below B w w'):s.Ok w' B:=⟨h.nm,h.wh,h.of,h.wk⟩
theorem Df.Ok.more {w:World} {B B':Nat} {s:Df} (h:s.Ok w B) (hB:B≤B'):s.Ok w B':=⟨h.nm,h.wh,h.of,h.wk⟩
structure Df.At (w:World) (b o:Nat) (s:Df):Prop where
 c0:w.cell? ⟨b,o,none⟩=some (.string s.nm)
 c1:w.cell? ⟨b,o+1,none⟩=some (.int .i64 s.wh)
 c2:w.cell? ⟨b,o+2,none⟩=some (.int .u64 s.of)
 c3:w.cell? ⟨b,o+3,none⟩=some (.bool s.wk)
theorem Df.At.below {w w':World} {B b o:Nat} {s:Df} (h:Df.At w b o s) (hb:Below B w w') (hB:b<B):Df.At w' b o s:=
 ⟨(hb.cell hB).trans h.c0,(hb.cell hB).trans h.c1,(hb.cell hB).trans h.c2,(hb.cell hB).trans h.c3⟩
theorem Df.getD_mem {L:List Df} {k:Nat} (h:k<L.length):L.getD k Df.zero∈L:=by
 rw [gZe,gZg h];exact List.getElem_mem h
theorem Df.take_snoc {L:List Df} {k:Nat} (h:k<L.length):L.take (k+1)=L.take k++[L.getD k Df.zero]:=by
 rw [List.take_succ_eq_append_getElem h,gZe,gZg h];rfl
structure Df.Sl (w:World) (B:Nat) (a:Option Addr) (len:Nat) (L:List Df):Prop where
 hl:L.length=len
 hok:∀s∈L,s.Ok w B
 hc:0<len→∃b off,a=some ⟨b,off,none⟩∧b<B∧∀i,i<len→Df.At w b (off+i*4) (L.getD i Df.zero)
theorem Df.Sl.below {w w':World} {B:Nat} {a:Option Addr} {len:Nat} {L:List Df} (h:Df.Sl w B a len L) (hb:Below B w w'):Df.Sl w' B a len L:=
 ⟨h.hl,fun s hs=>(h.hok s hs).below hb,fun hl=>by
  obtain ⟨b,off,e,hB,hc⟩:=h.hc hl;exact ⟨b,off,e,hB,fun i hi=>(hc i hi).below hb hB⟩⟩
theorem Df.Sl.more {w:World} {B B':Nat} {a:Option Addr} {len:Nat} {L:List Df} (h:Df.Sl w B a len L) (hB:B≤B'):Df.Sl w B' a len L:=
 ⟨h.hl,fun s hs=>(h.hok s hs).more hB,fun hl=>by
  obtain ⟨b,off,e,hb,hc⟩:=h.hc hl;exact ⟨b,off,e,Nat.lt_of_lt_of_le hb hB,hc⟩⟩
theorem Df.Sl.empty (w:World) (B:Nat) (a:Option Addr):Df.Sl w B a 0 []:=⟨rfl,fun _ h=>(by cases h),fun h=>absurd h oZm⟩
theorem Df.Sl.okAt {w:World} {B:Nat} {a:Option Addr} {len:Nat} {L:List Df} (h:Df.Sl w B a len L) {i:Nat} (hi:i<len):(L.getD i Df.zero).Ok w B:=
 h.hok _ (Df.getD_mem (by have:=h.hl;omega))
def Df.flat (L:List Df):List Value:=L.flatMap fun s=>[.string s.nm,.int .i64 s.wh,.int .u64 s.of,.bool s.wk]
theorem Df.flat_snoc (L:List Df) (s:Df):Df.flat (L++[s])=Df.flat L++[.string s.nm,.int .i64 s.wh,.int .u64 s.of,.bool s.wk]:=by
 unfold Df.flat;rw [List.flatMap_append];simp
theorem Df.flat_len:∀L:List Df,(Df.flat L).length=L.length*4
 | []=>rfl
 | s :: L=>by
   have:=Df.flat_len L;unfold Df.flat at this⊢;rw [List.flatMap_cons,lZa,this];simp [Nat.add_mul];omega
theorem Df.flat_at:∀(L:List Df) (i:Nat),i<L.length→(Df.flat L)[i*4]?=some (.string (L.getD i Df.zero).nm)∧(Df.flat L)[i*4+1]?=some (.int .i64 (L.getD i Df.zero).wh)∧(Df.flat L)[i*4+2]?=some (.int .u64 (L.getD i Df.zero).of)∧(Df.flat L)[i*4+3]?=some (.bool (L.getD i Df.zero).wk)
 | [],i,h=>by simp at h
 | s :: L,0,_=>by simp [Df.flat]
 | s :: L,i+1,h=>by
   have:=Df.flat_at L i (by simpa using h);unfold Df.flat at this⊢;rw [List.flatMap_cons];have e:∀j,([.string s.nm,.int .i64 s.wh,.int .u64 s.of,.bool s.wk]++L.flatMap (fun s=>[.string s.nm,.int .i64 s.wh,.int .u64 s.of,.bool s.wk]):List Value)[(i+1)*4+j]?=(L.flatMap (fun s=>[.string s.nm,.int .i64 s.wh,.int .u64 s.of,.bool s.wk]):List Value)[i*4+j]?:=fun j=>by
    rw [List.getElem?_append_right (by simp;omega)]
    congr 1
    simp;omega
   have e0:=e 0;simp only [Nat.add_zero] at e0;rw [e0,e 1,e 2,e 3];simpa using this
theorem Df.Sl.own {w:World} {base:Nat} {e:TypeId} {a:Option Addr} {len cap:Nat} {L:List Df} (hok:∀s∈L,s.Ok w w.heap.size) (h:w.ownsRow base e 4 (.slice a len cap) len (Df.flat L)):Df.Sl w w.heap.size a len L:=by
 have hl:L.length=len:=by have:=h.1;rw [Df.flat_len] at this;omega
 refine ⟨hl,hok,fun hp=>?_⟩;obtain ⟨g,rfl,hlt⟩:∃g,a=some ⟨g,0,none⟩∧g<w.heap.size:=by
  rcases h.2 with ⟨_,e0⟩ | ⟨g,c,cur,hv,_,hg,_⟩
  ·omega
  ·refine ⟨g,by injection hv,?_⟩;obtain ⟨hlt,_⟩:=Array.getElem?_eq_some_iff.1 hg;exact hlt
 refine ⟨g,0,rfl,hlt,fun i hi=>?_⟩;obtain ⟨f0,f1,f2,f3⟩:=Df.flat_at L i oZm;simp only [Nat.zero_add];exact ⟨(h.cellAt _ oZm).trans f0,(h.cellAt _ oZm).trans f1,(h.cellAt _ oZm).trans f2,(h.cellAt _ oZm).trans f3⟩
end Go.Proofs.YtclgbdfkdbbinaaGreat
