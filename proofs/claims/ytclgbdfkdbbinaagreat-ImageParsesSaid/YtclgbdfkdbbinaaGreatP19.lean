/-
  What is proved here: words and contracts, a part of those that the statement rests on (P19).
  Conditions: none but that the arguments are values of their types.
-/
import Derived.Test.YtclgbdfkdbbinaaGreatP18
import Derived.Test.YtclgbdfkdbbinaaGreatP11
import Derived.Test.YtclgbdfkdbbinaaGreatP1
import Derived.Test.YtclgbdfkdbbinaaGreatP5
import Derived.Test.YtclgbdfkdbbinaaGreatP12
import Derived.Test.YtclgbdfkdbbinaaGreatP3
import Derived.Test.YtclgbdfkdbbinaaGreatP6
import Derived.Test.YtclgbdfkdbbinaaGreatP2
import Derived.Test.YtclgbdfkdbbinaaGreatP13
import Derived.Deep.Cut
import Derived.Deep.DeepCutAuto
import Derived.ProofKit
import Derived.OpenShut
import Derived.ChangeSame
set_option linter.unusedVariables false
set_option linter.unusedSimpArgs false
set_option maxRecDepth 100000
set_option maxHeartbeats 12800000
namespace Go.Proofs.YtclgbdfkdbbinaaGreat
open Go.RowKit
def allL:List (Pm→Int×Pm):=[takeI,headI,segsI,dynI,crI,csI]
def allP (q:Nat) (m:Pm):Prop:=if q≤3 then m.m.nd=[]∧m.m.nm=[] else True
theorem allP_next (q:Nat) (m:Pm) (hq:q<6) (h:allP q m) (h0:((allL.getD q fun m=>(0,m)) m).1=0):allP (q+1) ((allL.getD q fun m=>(0,m)) m).2:=by
 have hq:q=0∨q=1∨q=2∨q=3∨q=4∨q=5:=by omega
 rcases hq with rfl | rfl | rfl | rfl | rfl | rfl
 ·show allP 1 (takeI m).2;unfold takeI;split<;>exact h
 ·show allP 2 (headI m).2;unfold headI;repeat' split
  all_goals exact h
 ·show allP 3 (segsI m).2;unfold segsI;repeat' split
  all_goals exact h
 ·exact trivial
 ·exact trivial
 ·exact trivial
theorem all_ok (g:Nat) (q:Nat) (hq:q<6):StepAt g ([19,20,21,22,23,24].getD q 0) (allP q) (allL.getD q fun m=>(0,m)):=by
 have hq:q=0∨q=1∨q=2∨q=3∨q=4∨q=5:=by omega
 rcases hq with rfl | rfl | rfl | rfl | rfl | rfl
 ·exact (take9_ok g).at' _
 ·exact (head9_ok g).at' _
 ·exact (segs9_ok g).at' _
 ·exact fun p m w h=>dyn9_ok g p m w h
 ·exact (cr9_ok g).at' _
 ·exact (cs9_ok g).at' _
theorem all_run (g:Nat) (W:World) (hh:Nat) (h0:W.heap.size=hh) (p:Pz) (m:Pm) (h1:Ps9 g W p m) (hm:m.m.nd=[]∧m.m.nm=[]) :
 Calls Tryz.prog 18 #[.slice (some ⟨hh,0,none⟩) 6 6] (W.alloc (.cells #[.func (.func 19) #[.pointer (some ⟨g,0,none⟩)] #[],.func (.func 20) #[.pointer (some ⟨g,0,none⟩)] #[],.func (.func 21) #[.pointer (some ⟨g,0,none⟩)] #[],.func (.func 22) #[.pointer (some ⟨g,0,none⟩)] #[],.func (.func 23) #[.pointer (some ⟨g,0,none⟩)] #[],.func (.func 24) #[.pointer (some ⟨g,0,none⟩)] #[]] 74)) fun r w'=>r=.returned (.int .i64 (runI allL m).1)∧((runI allL m).1=0→∃p,Ps9 g w' p (runI allL m).2)∧Kq g W w':=by
 subst h0;have h3:=h1.lt;have h4:=inOrder_any g W.heap.size 6 [19,20,21,22,23,24] allL #[.func (.func 19) #[.pointer (some ⟨g,0,none⟩)] #[],.func (.func 20) #[.pointer (some ⟨g,0,none⟩)] #[],.func (.func 21) #[.pointer (some ⟨g,0,none⟩)] #[],.func (.func 22) #[.pointer (some ⟨g,0,none⟩)] #[],.func (.func 23) #[.pointer (some ⟨g,0,none⟩)] #[],.func (.func 24) #[.pointer (some ⟨g,0,none⟩)] #[]] 74 p m _ (h1.alloc (.cells #[.func (.func 19) #[.pointer (some ⟨g,0,none⟩)] #[],.func (.func 20) #[.pointer (some ⟨g,0,none⟩)] #[],.func (.func 21) #[.pointer (some ⟨g,0,none⟩)] #[],.func (.func 22) #[.pointer (some ⟨g,0,none⟩)] #[],.func (.func 23) #[.pointer (some ⟨g,0,none⟩)] #[],.func (.func 24) #[.pointer (some ⟨g,0,none⟩)] #[]] 74)) (Blk.new W _ _) (by omega) rfl (by omega)
  (fun q hq=>by
   have hq:q=0∨q=1∨q=2∨q=3∨q=4∨q=5:=by omega
   rcases hq with rfl | rfl | rfl | rfl | rfl | rfl<;>rfl)
  (fun q hq=>by
   have hq:q=0∨q=1∨q=2∨q=3∨q=4∨q=5:=by omega
   rcases hq with rfl | rfl | rfl | rfl | rfl | rfl<;>decide)
  allP hm allP_next (all_ok g)
 exact h4.mono fun r w' h=>⟨h.1,h.2.1,((Kq.refl g W).alloc (Nat.le_of_lt h3) _).trans h.2.2⟩
theorem Prow.is {w:World} {b:Nat} {p:Pz} {m:Pm} (h:Prow w b p m):p.x.Is w w.heap.size m.m:=by
 have o0:=h.sg;have o1:=h.nd;have o2:=h.nm;have o3:=h.sy;have o4:=h.rl;have o5:=h.zs;obtain ⟨n0,l0,c0⟩:=own_n o0;obtain ⟨n1,l1,c1⟩:=own_n o1;obtain ⟨n2,l2,c2⟩:=own_n o2;obtain ⟨n3,l3,c3⟩:=own_n o3;obtain ⟨n4,l4,c4⟩:=own_n o4;obtain ⟨n5,l5,c5⟩:=own_n o5;rw [←n0] at o0;rw [←n1] at o1;rw [←n2] at o2;rw [←n3] at o3;rw [←n4] at o4;rw [←n5] at o5;exact ⟨h.k,h.e,h.s,h.c,h.so,Sgs.own h.oks o0,Strs.own o1,Strs.own o2,Sy.Sl.own h.oky o3,Rl.Sl.own h.okr o4,Bys.own h.okz o5,⟨l0,c0⟩,⟨l1,c1⟩,⟨l2,c2⟩,⟨l3,c3⟩,⟨l4,c4⟩,⟨l5,c5⟩⟩
theorem u64_0:u64B 0:=⟨by decide,by decide⟩
theorem prow0 (w:World) (b:Nat) (a:Option Addr) (len cap:Nat) (zs:List Int):Prow w b ⟨iv0,⟨a,len,cap⟩,Sh.zero,0,0,0,0,0,0,0,Sh.zero⟩ (pm0 zs):=
 ⟨rfl,rfl,rfl,rfl,rfl,World.ownsRow_nil _ _ _ _,World.ownsRow_nil _ _ _ _,World.ownsRow_nil _ _ _ _,World.ownsRow_nil _ _ _ _,World.ownsRow_nil _ _ _ _,World.ownsRow_nil _ _ _ _,World.ownsRow_nil _ _ _ _,World.ownsRow_nil _ _ _ _,
  fun _ h=>(by cases h),fun _ h=>(by cases h),fun _ h=>(by cases h),fun _ h=>(by cases h),fun _ h=>(by cases h),fun _ h=>(by cases h),Nat.zero_le _,Nat.zero_le _,Nat.zero_le _,u64_0,
  ⟨rfl,u64_0⟩,⟨rfl,u64_0⟩,⟨rfl,u64_0⟩,⟨rfl,u64_0⟩,⟨rfl,u64_0⟩,⟨rfl,u64_0⟩,⟨rfl,u64_0⟩,fun _=>rfl,fun _=>rfl⟩
def ParseOwn (Z:Int×Im) (w:World) (e:Ending) (w':World):Prop:=
 (∃x:Iv,e=.returned (.tuple #[x.val,.int .i64 Z.1])∧x.Is w' w'.heap.size Z.2∧w'.ownsRow w.heap.size 5 1 (.slice x.zs.a x.zs.n x.zs.c) Z.2.zs.length (Z.2.zs.map (Value.int .u8))∧(Z.1≠0→x=iv0))∧Below w.heap.size w w'
theorem fr22 (y:Nat→Value):frameOf 22 y=#[y 0,y 1,y 2,y 3,y 4,y 5,y 6,y 7,y 8,y 9,y 10,y 11,y 12,y 13,y 14,y 15,y 16,y 17,y 18,y 19,y 20,y 21]:=rfl
theorem prs_ok (y:Nat→Value) (w w5:World) (zm:Pm) (h2:y 2=.pointer (some ⟨w.heap.size,0,none⟩)) (h4:y 4=.pointer (some ⟨w.heap.size+1,0,none⟩)) (h5:y 5=.int .i64 0)
 (hres:Blk w5 w.heap.size #[.int .i64 0,.int .u64 0,.int .u64 0,.int .i64 0,.slice none 0 0,.string ⟨#[]⟩,.slice none 0 0,.slice none 0 0,.slice none 0 0,.slice none 0 0,.slice none 0 0] 32) (hbw:Below w.heap.size w w5) (p:Pz) (hp:Ps9 (w.heap.size+1) w5 p zm) :
 Code.wp Tryz.prog (restAt 3 (Tryz.f10.body.getD .skip)) (bodyPost Tryz.prog Tryz.f10 (ParseOwn (0,zm.m) w)) ⟨frameOf 22 y,[]⟩ w5:=by
 rw [fr22,h2,h4,h5];clear h2 h4 h5;conv=>arg 2;whnf
 have hlt:=hres.lt;obtain ⟨q0,q1,q2,q3,q4,q5,q6,q7,q8,q9,q10⟩:=Iv.cs hres;obtain ⟨f0,f1,f2,f3,f4,f5,f6,f7,f8,f9,f10⟩:=Iv.fs hres;have HP:=Lib.hid hp;have hbx:=hp.box;obtain ⟨⟨k,e,s,c,⟨sga,sgn,sgc⟩,so,⟨nda,ndn,ndc⟩,⟨nma,nmn,nmc⟩,⟨sya,syn,syc⟩,⟨rla,rln,rlc⟩,⟨zsa,zsn,zsc⟩⟩,⟨fia,fin,fic⟩,⟨n0,n1,n2⟩,v0,v1,v2,v3,v4,v5,v6,⟨tba,tbn,tbc⟩⟩:=p;obtain ⟨p0,p1,p2,p3,p4,p5,p6,p7,p8,p9,p10⟩:w5.cell? ⟨w.heap.size+1,0,none⟩=some (.int .i64 k)∧w5.cell? ⟨w.heap.size+1,1,none⟩=some (.int .u64 e)∧w5.cell? ⟨w.heap.size+1,2,none⟩=some (.int .u64 s)∧w5.cell? ⟨w.heap.size+1,3,none⟩=some (.int .i64 c)∧w5.cell? ⟨w.heap.size+1,4,none⟩=some (.slice sga sgn sgc)∧w5.cell? ⟨w.heap.size+1,5,none⟩=some (.string so)∧w5.cell? ⟨w.heap.size+1,6,none⟩=some (.slice nda ndn ndc)∧w5.cell? ⟨w.heap.size+1,7,none⟩=some (.slice nma nmn nmc)∧w5.cell? ⟨w.heap.size+1,8,none⟩=some (.slice sya syn syc)∧w5.cell? ⟨w.heap.size+1,9,none⟩=some (.slice rla rln rlc)∧w5.cell? ⟨w.heap.size+1,10,none⟩=some (.slice zsa zsn zsc):=⟨hbx.cell 0,hbx.cell 1,hbx.cell 2,hbx.cell 3,hbx.cell 4,hbx.cell 5,hbx.cell 6,hbx.cell 7,hbx.cell 8,hbx.cell 9,hbx.cell 10⟩
 have hgl:=hbx.lt;have h11:=hres.eleven (.int .i64 k) (.int .u64 e) (.int .u64 s) (.int .i64 c) (.slice sga sgn sgc) (.string so) (.slice nda ndn ndc) (.slice nma nmn nmc) (.slice sya syn syc) (.slice rla rln rlc) (.slice zsa zsn zsc);obtain ⟨z0,z1,z2,z3,z4,z5,z6,z7,z8,z9,z10⟩:=Iv.cs h11;have HKP:=Lib.hid (Kp.eleven w5 w.heap.size (.int .i64 k) (.int .u64 e) (.int .u64 s) (.int .i64 c) (.slice sga sgn sgc) (.string so) (.slice nda ndn ndc) (.slice nma nmn nmc) (.slice sya syn syc) (.slice rla rln rlc) (.slice zsa zsn zsc));have HBF:=Lib.hid (below_eleven hbw (Nat.le_refl _) (.int .i64 k) (.int .u64 e) (.int .u64 s) (.int .i64 c) (.slice sga sgn sgc) (.string so) (.slice nda ndn ndc) (.slice nma nmn nmc) (.slice sya syn syc) (.slice rla rln rlc) (.slice zsa zsn zsc));clear hres hbw hp hbx h11;go_wp2;refine bodyPost_ret (v:=.tuple #[.agg #[.int .i64 k,.int .u64 e,.int .u64 s,.int .i64 c,.slice sga sgn sgc,.string so,.slice nda ndn ndc,.slice nma nmn nmc,.slice sya syn syc,.slice rla rln rlc,.slice zsa zsn zsc],.int .i64 0]) (by simp [results,Tryz.results10,go_sem,z0,z1,z2,z3,z4,z5,z6,z7,z8,z9,z10]) rfl ?_;have hr:=HP.out.row.kp HKP.out (by omega);exact ⟨⟨_,rfl,hr.is,own_base9 hr.zs (by omega),fun e=>absurd rfl e⟩,HBF.out⟩
theorem prs_err (y:Nat→Value) (w w5:World) (ze:Int) (hz:ze≠0) (h2:y 2=.pointer (some ⟨w.heap.size,0,none⟩)) (h4:y 4=.pointer (some ⟨w.heap.size+1,0,none⟩)) (h5:y 5=.int .i64 ze)
 (hres:Blk w5 w.heap.size #[.int .i64 0,.int .u64 0,.int .u64 0,.int .i64 0,.slice none 0 0,.string ⟨#[]⟩,.slice none 0 0,.slice none 0 0,.slice none 0 0,.slice none 0 0,.slice none 0 0] 32) (hbw:Below w.heap.size w w5) :
 Code.wp Tryz.prog (restAt 3 (Tryz.f10.body.getD .skip)) (bodyPost Tryz.prog Tryz.f10 (ParseOwn (ze,im0) w)) ⟨frameOf 22 y,[]⟩ w5:=by
 rw [fr22,h2,h4,h5];clear h2 h4 h5;conv=>arg 2;whnf
 have hlt:=hres.lt;obtain ⟨q0,q1,q2,q3,q4,q5,q6,q7,q8,q9,q10⟩:=Iv.cs hres;obtain ⟨f0,f1,f2,f3,f4,f5,f6,f7,f8,f9,f10⟩:=Iv.fs hres;have hzb:(ze != 0)=true:=by rw [bne_iff_ne];exact hz
 obtain ⟨z0,z1,z2,z3,z4,z5,z6,z7,z8,z9,z10⟩:=Iv.cs (hres.eleven (.int .i64 0) (.int .u64 0) (.int .u64 0) (.int .i64 0) (.slice none 0 0) (.string ⟨#[]⟩) (.slice none 0 0) (.slice none 0 0) (.slice none 0 0) (.slice none 0 0) (.slice none 0 0));have HBF:=Lib.hid (below_eleven hbw (Nat.le_refl _) (.int .i64 0) (.int .u64 0) (.int .u64 0) (.int .i64 0) (.slice none 0 0) (.string ⟨#[]⟩) (.slice none 0 0) (.slice none 0 0) (.slice none 0 0) (.slice none 0 0) (.slice none 0 0));clear hres hbw;go_wp2;refine bodyPost_ret (v:=.tuple #[.agg #[.int .i64 0,.int .u64 0,.int .u64 0,.int .i64 0,.slice none 0 0,.string ⟨#[]⟩,.slice none 0 0,.slice none 0 0,.slice none 0 0,.slice none 0 0,.slice none 0 0],.int .i64 ze]) (by simp [results,Tryz.results10,go_sem,z0,z1,z2,z3,z4,z5,z6,z7,z8,z9,z10]) rfl ?_;exact ⟨⟨iv0,rfl,iv0_is _ _,World.ownsRow_nil _ _ _ _,fun _=>rfl⟩,HBF.out⟩
theorem prs_3x (x:List Value) (hx:x.length=22) (w w5:World) (ze:Int) (zm:Pm) (h2:x.getD 2 undef=.pointer (some ⟨w.heap.size,0,none⟩)) (h4:x.getD 4 undef=.pointer (some ⟨w.heap.size+1,0,none⟩)) (h5:x.getD 5 undef=.int .i64 ze)
 (hres:Blk w5 w.heap.size #[.int .i64 0,.int .u64 0,.int .u64 0,.int .i64 0,.slice none 0 0,.string ⟨#[]⟩,.slice none 0 0,.slice none 0 0,.slice none 0 0,.slice none 0 0,.slice none 0 0] 32) (hbw:Below w.heap.size w w5) (hst:ze=0→∃p,Ps9 (w.heap.size+1) w5 p zm) :
 Code.wp Tryz.prog (restAt 3 (Tryz.f10.body.getD .skip)) (bodyPost Tryz.prog Tryz.f10 (ParseOwn (ze,if ze=0 then zm.m else im0) w)) ⟨x.toArray,[]⟩ w5:=by
 rw [frameOf_list x,hx];by_cases hz:ze=0
 ·subst hz;obtain ⟨p,hp⟩:=hst rfl;rw [if_pos rfl];exact prs_ok (fun t=>x.getD t undef) w w5 zm h2 h4 h5 hres hbw p hp
 ·rw [if_neg hz];exact prs_err (fun t=>x.getD t undef) w w5 ze hz h2 h4 h5 hres hbw
theorem iparse0_any (B:Nat) (a:Option Addr) (len cap:Nat) (zs:List Int) (w:World) (hb:Bys w B a len zs) (hB:B≤w.heap.size) (hcap:len≤cap) (hcm:(cap:Int)≤9223372036854775807) (hnil:a=none→cap=0) :
 Calls Tryz.prog 10 #[.slice a len cap] w (ParseOwn ((runI allL (pm0 zs)).1,if (runI allL (pm0 zs)).1=0 then (runI allL (pm0 zs)).2.m else im0) w):=by
 have HST0:Hid (Ps9 (w.heap.size+1) ((w.alloc (.cells #[.int .i64 0,.int .u64 0,.int .u64 0,.int .i64 0,.slice none 0 0,.string ⟨#[]⟩,.slice none 0 0,.slice none 0 0,.slice none 0 0,.slice none 0 0,.slice none 0 0] 32)).alloc (.cells #[.int .i64 0,.int .u64 0,.int .u64 0,.int .i64 0,.slice none 0 0,.string ⟨#[]⟩,.slice none 0 0,.slice none 0 0,.slice none 0 0,.slice none 0 0,.slice none 0 0,.slice a len cap,.slice none 0 0,.int .u64 0,.int .u64 0,.int .u64 0,.int .u64 0,.int .u64 0,.int .u64 0,.int .u64 0,.slice none 0 0] 72)) ⟨iv0,⟨a,len,cap⟩,Sh.zero,0,0,0,0,0,0,0,Sh.zero⟩ (pm0 zs)):=Lib.hid (by
  have hbl:Below w.heap.size w ((w.alloc (.cells #[.int .i64 0,.int .u64 0,.int .u64 0,.int .i64 0,.slice none 0 0,.string ⟨#[]⟩,.slice none 0 0,.slice none 0 0,.slice none 0 0,.slice none 0 0,.slice none 0 0] 32)).alloc (.cells #[.int .i64 0,.int .u64 0,.int .u64 0,.int .i64 0,.slice none 0 0,.string ⟨#[]⟩,.slice none 0 0,.slice none 0 0,.slice none 0 0,.slice none 0 0,.slice none 0 0,.slice a len cap,.slice none 0 0,.int .u64 0,.int .u64 0,.int .u64 0,.int .u64 0,.int .u64 0,.int .u64 0,.int .u64 0,.slice none 0 0] 72)):=((Below.refl _ _).alloc (Nat.le_refl _) _).alloc (by simp) _;refine ⟨?_,prow0 _ _ _ _ _ _,(hb.below (hbl.mono hB)).more (by omega),⟨hcap,hcm⟩,hnil⟩;have:=Blk.new (w.alloc (.cells #[.int .i64 0,.int .u64 0,.int .u64 0,.int .i64 0,.slice none 0 0,.string ⟨#[]⟩,.slice none 0 0,.slice none 0 0,.slice none 0 0,.slice none 0 0,.slice none 0 0] 32)) #[.int .i64 0,.int .u64 0,.int .u64 0,.int .i64 0,.slice none 0 0,.string ⟨#[]⟩,.slice none 0 0,.slice none 0 0,.slice none 0 0,.slice none 0 0,.slice none 0 0,.slice a len cap,.slice none 0 0,.int .u64 0,.int .u64 0,.int .u64 0,.int .u64 0,.int .u64 0,.int .u64 0,.int .u64 0,.slice none 0 0] 72;rw [World.size_alloc] at this;exact this)
 have HRUN:=Lib.hid (all_run (w.heap.size+1) _ (w.heap.size+1+1) (by simp) _ _ HST0.out ⟨rfl,rfl⟩);have HR0:Hid (Blk ((w.alloc (.cells #[.int .i64 0,.int .u64 0,.int .u64 0,.int .i64 0,.slice none 0 0,.string ⟨#[]⟩,.slice none 0 0,.slice none 0 0,.slice none 0 0,.slice none 0 0,.slice none 0 0] 32)).alloc (.cells #[.int .i64 0,.int .u64 0,.int .u64 0,.int .i64 0,.slice none 0 0,.string ⟨#[]⟩,.slice none 0 0,.slice none 0 0,.slice none 0 0,.slice none 0 0,.slice none 0 0,.slice a len cap,.slice none 0 0,.int .u64 0,.int .u64 0,.int .u64 0,.int .u64 0,.int .u64 0,.int .u64 0,.int .u64 0,.slice none 0 0] 72)) w.heap.size #[.int .i64 0,.int .u64 0,.int .u64 0,.int .i64 0,.slice none 0 0,.string ⟨#[]⟩,.slice none 0 0,.slice none 0 0,.slice none 0 0,.slice none 0 0,.slice none 0 0] 32):=Lib.hid ((Blk.new w _ _).alloc _);have HB0:Hid (Below w.heap.size w ((w.alloc (.cells #[.int .i64 0,.int .u64 0,.int .u64 0,.int .i64 0,.slice none 0 0,.string ⟨#[]⟩,.slice none 0 0,.slice none 0 0,.slice none 0 0,.slice none 0 0,.slice none 0 0] 32)).alloc (.cells #[.int .i64 0,.int .u64 0,.int .u64 0,.int .i64 0,.slice none 0 0,.string ⟨#[]⟩,.slice none 0 0,.slice none 0 0,.slice none 0 0,.slice none 0 0,.slice none 0 0,.slice a len cap,.slice none 0 0,.int .u64 0,.int .u64 0,.int .u64 0,.int .u64 0,.int .u64 0,.int .u64 0,.int .u64 0,.slice none 0 0] 72))):=Lib.hid (((Below.refl _ _).alloc (Nat.le_refl _) _).alloc (by simp) _);generalize runI allL (pm0 zs)=Z at HRUN;obtain ⟨ze,zm⟩:=Z;simp only at HRUN⊢;obtain ⟨zi,hzi⟩:∃zi,(if ze=0 then zm.m else im0)=zi:=⟨_,rfl⟩
 rw [hzi];have HZI:=Lib.hid hzi;clear hb hnil hzi;go_enter Tryz.func10,Tryz.ntmps10
 go_upto_region 2 with (refine wpList_new 72 _ #[.int .i64 0,.int .u64 0,.int .u64 0,.int .i64 0,.slice none 0 0,.string ⟨#[]⟩,.slice none 0 0,.slice none 0 0,.slice none 0 0,.slice none 0 0,.slice none 0 0,.slice a len cap,.slice none 0 0,.int .u64 0,.int .u64 0,.int .u64 0,.int .u64 0,.int .u64 0,.int .u64 0,.int .u64 0,.slice none 0 0] #[.int .i64 0,.int .u64 0,.int .u64 0,.int .i64 0,.slice none 0 0,.string ⟨#[]⟩,.slice none 0 0,.slice none 0 0,.slice none 0 0,.slice none 0 0,.slice none 0 0,.slice none 0 0,.slice none 0 0,.int .u64 0,.int .u64 0,.int .u64 0,.int .u64 0,.int .u64 0,.int .u64 0,.int .u64 0,.slice none 0 0] _ _ rfl rfl rfl rfl rfl rfl (by kernel_rfl) (by kernel_rfl) (by kernel_rfl) rfl (by kernel_rfl) rfl rfl ?_;go_simp)
 go_cut [5] (fun v wx=>v=.int .i64 ze∧(ze=0→∃p,Ps9 (w.heap.size+1) wx p zm)∧Blk wx w.heap.size #[.int .i64 0,.int .u64 0,.int .u64 0,.int .i64 0,.slice none 0 0,.string ⟨#[]⟩,.slice none 0 0,.slice none 0 0,.slice none 0 0,.slice none 0 0,.slice none 0 0] 32∧Below w.heap.size w wx)
 case first=>
  go_wp2_with fail;refine HRUN.out.mono ?_;rintro r w5 ⟨rfl,hst,hkq⟩;have HRES:=Lib.hid (HR0.out.below hkq.bel (Nat.lt_succ_self _));have HBW:Hid (Below w.heap.size w w5):=Lib.hid (HB0.out.trans (hkq.bel.mono (Nat.le_succ _)));have HST:=Lib.hid hst;clear hst hkq HRUN HST0 HR0 HB0;go_wp2;go_meet
  case rel=>exact ⟨rfl,HST.out,HRES.out,HBW.out⟩
 case rest=>
  obtain ⟨rfl,hst,hres,hbw⟩:=hcut;rename_i KK hKK;refine hKK _ _ ?_;rw [←HZI.out];exact prs_3x _ rfl w _ ze zm rfl rfl rfl hres hbw hst
theorem run_err {f:Pm→Int×Pm} {fs:List (Pm→Int×Pm)} {m:Pm} (h:(f m).1≠0):runI (f :: fs) m=f m:=by rw [runI,if_pos h]
theorem run_ok {f:Pm→Int×Pm} {fs:List (Pm→Int×Pm)} {m:Pm} (h:(f m).1=0):runI (f :: fs) m=runI fs (f m).2:=by rw [runI,if_neg (by rw [h];decide)]
theorem run_nil (m:Pm):runI [] m=(0,m):=rfl
theorem num_nn {l:List Int} (h:∀n∈l,0≤n∧n≤255):0≤num l:=(num_bd h).1
theorem outD_v {zs:List Int} (hz:∀n∈zs,0≤n∧n≤255):∀(f k:Nat) (s:StD),(∀x∈s.v,0≤x)→∀x∈(outD zs f k s).2.v,0≤x
 | 0,k,s,h=>by simp [outD,stD0]
 | f+1,k,s,h=>by
   have hv:0≤valAt zs k:=num_nn (piece_mem hz);unfold outD;split
   ·simp [stD0]
   ·split
    ·split
     ·exact h
     ·simp [stD0]
    ·split
     ·exact outD_v hz f (k+1) ⟨s.nd++[valAt zs k],s.v,s.seen⟩ h
     ·split
      ·simp [stD0]
      ·split
       ·simp [stD0]
       ·rename_i i _ _;refine outD_v hz f (k+1) ⟨s.nd,s.v.set i (valAt zs k),s.seen.set i true⟩ (fun x hx=>?_);rcases List.mem_or_eq_of_mem_set hx with h1 | h1
        ·exact h x h1
        ·rw [h1];exact hv
theorem getDy_v {zs:List Int} (hz:∀n∈zs,0≤n∧n≤255) (i:Nat):0≤(getDy zs).2.v.getD i 0:=by
 have h:=outD_v hz (zs.length+1) 0 stD0 (by simp [stD0]);unfold getDy;rw [List.getD_eq_getElem?_getD];by_cases hi:i<(outD zs (zs.length+1) 0 stD0).2.v.length
 ·rw [List.getElem?_eq_getElem hi];exact h _ (List.getElem_mem hi)
 ·rw [List.getElem?_eq_none (by omega)];simp
theorem bytesI_len {L:List Sg} {zs:List Int} {a s:Int} (h:(bytesI L zs a s).1=0) (s0:0≤s):(bytesI L zs a s).2.length=s.toNat:=by
 unfold bytesI at h⊢;by_cases h1:(placeI L a s).1≠0
 ·rw [if_pos h1] at h;exact absurd h h1
 ·rw [if_neg h1] at h⊢;unfold cutI at h⊢;have hb:=(placeI_bd L a s).1;by_cases h2:(zs.length:Int)<(placeI L a s).2+s
  ·rw [if_pos h2] at h;cases h
  ·rw [if_neg h2];exact piece_len (by omega)
theorem tabY_0 {L:List Sg} {zs:List Int} {a n:Int} (h:(bytesI L zs a (24*n)).1=0) (n0:0≤n):(tabY (bytesI L zs a (24*n)).2).1=0:=by
 have:=bytesI_len h (by omega);unfold tabY;rw [if_pos (by rw [this];omega)]
theorem checkY_11 {L:List Sy} (h:checkY L≠0):checkY L=11:=by
 unfold checkY at h⊢;split
 ·rfl
 ·rw [if_neg ‹_›] at h;exact absurd rfl h
theorem chk_11 {t:List Int} (h:chk t≠0):chk t=11:=by
 unfold chk at h⊢;split
 ·rfl
 ·rw [if_neg ‹_›] at h;exact absurd rfl h
theorem kind_head {zs:List Int} (h:isHead zs=true):kOf zs=2∨kOf zs=3∨kOf zs=4:=by
 unfold isHead at h;rw [Bool.and_eq_true] at h;obtain ⟨h1,h2,-,-⟩:=validB_iff.1 h.1;omega
def EqI (m:Pm) (Z:Int×Pm) (N:Int×Na):Prop:=Z.1=N.1∧(N.1=0→Z.2.m={ m.m with so:=N.2.so,nd:=N.2.nd,nm:=N.2.nm,sy:=N.2.sy,rl:=N.2.rl })
theorem EqI.err {m:Pm} {Z:Int×Pm} {N:Int×Na} (h:Z.1=N.1) (h0:N.1≠0):EqI m Z N:=⟨h,fun e=>absurd e h0⟩
theorem rel_eq (m:Pm) (V:List Int) (h5:m.rt=V.getD 5 0) (h6:m.rz=V.getD 6 0) (hr:m.m.rl=[]) (v6:0≤V.getD 6 0) :
 EqI m (runI [rI] m) (relaI m.m.sg m.m.zs V m.m.so m.m.nd m.m.nm m.m.sy):=by
 have e:runI [rI] m=rI m∨runI [rI] m=(0,(rI m).2)∧(rI m).1=0:=by
  by_cases h:(rI m).1=0
  ·right;rw [run_ok h,run_nil];exact ⟨rfl,h⟩
  ·left;exact run_err h
 have e1:runI [rI] m=rI m:=by
  rcases e with e | ⟨e,h⟩
  ·exact e
  ·rw [e,←h]
 rw [e1];unfold EqI relaI rI;rw [h5,h6];by_cases c1:V.getD 6 0=0
 ·rw [if_pos c1,if_neg (by omega),if_pos (by omega)];exact ⟨rfl,fun _=>by rw [←hr]⟩
 ·rw [if_neg c1];by_cases c2:65536<V.getD 6 0
  ·rw [if_pos c2,if_pos c2];exact ⟨rfl,fun h=>by cases h⟩
  ·rw [if_neg c2,if_neg c2,if_neg (show ¬V.getD 6 0≤0 by omega)];by_cases c3:(bytesI m.m.sg m.m.zs (V.getD 5 0) (V.getD 6 0)).1≠0
   ·rw [if_pos c3,if_pos c3];exact ⟨rfl,fun h=>absurd h c3⟩
   ·rw [if_neg c3,if_neg c3];simp only
    by_cases c4:(tabL (bytesI m.m.sg m.m.zs (V.getD 5 0) (V.getD 6 0)).2).1≠0
    ·rw [if_pos c4,if_pos c4];exact ⟨rfl,fun h=>absurd h c4⟩
    ·rw [if_neg c4,if_neg c4];exact ⟨rfl,fun _=>rfl⟩
theorem syms_eq (m:Pm) (V:List Int) (h3:m.yt=V.getD 3 0) (h4:m.yn=V.getD 4 0) (h5:m.rt=V.getD 5 0) (h6:m.rz=V.getD 6 0) (hn:m.m.nm=[]) (hy:m.m.sy=[]) (hr:m.m.rl=[]) (v4:0≤V.getD 4 0) (v6:0≤V.getD 6 0) :
 EqI m (runI [yI,nmI,rI] m) (symsI m.m.sg m.m.zs V m.t m.m.so m.m.nd):=by
 unfold symsI;by_cases c1:V.getD 4 0=0
 ·rw [if_neg (by omega),if_pos (by omega)];have e1:yI m=(0,m):=by unfold yI;rw [h4,if_pos c1]
  rw [run_ok (by rw [e1]),e1];have e2:nmI m=(0,m):=by
   have hz:namesI m.t m.m.sy=(0,[]):=by rw [hy];rfl
   unfold nmI;rw [hz];simp only [ne_eq,not_true_eq_false,if_false];rw [←hn]
  rw [run_ok (by rw [e2]),e2];have:=rel_eq m V h5 h6 hr v6;rw [hn,hy] at this;exact this
 ·by_cases c2:1024<V.getD 4 0
  ·rw [if_pos c2];have e1:yI m=(13,m):=by unfold yI;rw [h4,if_neg c1,if_pos c2]
   rw [run_err (by rw [e1];exact (by decide:(13:Int)≠0)),e1];exact EqI.err rfl (by decide)
  ·rw [if_neg c2,if_neg (show ¬V.getD 4 0≤0 by omega)];have hq:=fun h=>@tabY_0 m.m.sg m.m.zs (V.getD 3 0) (V.getD 4 0) h v4;generalize hB:bytesI m.m.sg m.m.zs (V.getD 3 0) (24*V.getD 4 0)=B at hq⊢;by_cases c3:B.1≠0
   ·rw [if_pos c3];have e1:yI m=(B.1,m):=by unfold yI;rw [h4,h3,if_neg c1,if_neg c2,hB,if_pos c3]
    rw [run_err (by rw [e1];exact c3),e1];exact EqI.err rfl c3
   ·rw [if_neg c3];have hq0:=hq (by simpa using c3);have e1:yI m=(checkY (tabY B.2).2,{ m with m:={ m.m with sy:=(tabY B.2).2 } }):=by
     unfold yI;rw [h4,h3,if_neg c1,if_neg c2,hB,if_neg c3];simp only
     rw [if_neg (by rw [hq0];decide)]
    generalize (tabY B.2).2=Y at e1⊢;by_cases c4:checkY Y≠0
    ·rw [if_pos c4,run_err (by rw [e1];exact c4),e1];exact EqI.err (checkY_11 c4) (by decide)
    ·rw [if_neg c4,run_ok (by rw [e1];simpa using c4),e1];simp only
     by_cases c5:(namesI m.t Y).1≠0
     ·rw [if_pos c5];have e2:nmI { m with m:={ m.m with sy:=Y } }=((namesI m.t Y).1,{ m with m:={ m.m with sy:=Y } }):=by unfold nmI;rw [if_pos c5]
      rw [run_err (by rw [e2];exact c5),e2];exact EqI.err rfl c5
     ·rw [if_neg c5];have e2:nmI { m with m:={ m.m with sy:=Y } }=(0,{ m with m:={ m.m with sy:=Y,nm:=(namesI m.t Y).2 } }):=by unfold nmI;rw [if_neg c5]
      rw [run_ok (by rw [e2]),e2];exact rel_eq { m with m:={ m.m with sy:=Y,nm:=(namesI m.t Y).2 } } V h5 h6 hr v6
theorem needs_eq (m:Pm) (V N:List Int) (hN:m.N=N) (h3:m.yt=V.getD 3 0) (h4:m.yn=V.getD 4 0) (h5:m.rt=V.getD 5 0) (h6:m.rz=V.getD 6 0) (hn:m.m.nm=[]) (hy:m.m.sy=[]) (hr:m.m.rl=[]) (v4:0≤V.getD 4 0) (v6:0≤V.getD 6 0) :
 EqI m (runI [ndI,yI,nmI,rI] m) (needsI m.m.sg m.m.zs V N m.t m.m.so):=by
 unfold needsI;by_cases c:(needI m.t N).1≠0
 ·rw [if_pos c];have e:ndI m=((needI m.t N).1,m):=by unfold ndI;rw [hN,if_pos c]
  rw [run_err (by rw [e];exact c),e];exact EqI.err rfl c
 ·rw [if_neg c];have e:ndI m=(0,{ m with m:={ m.m with nd:=(needI m.t N).2 } }):=by unfold ndI;rw [hN,if_neg c]
  rw [run_ok (by rw [e]),e];exact syms_eq { m with m:={ m.m with nd:=(needI m.t N).2 } } V h3 h4 h5 h6 hn hy hr v4 v6
theorem son_eq (m:Pm) (V N:List Int) (hN:m.N=N) (h0:m.so=V.getD 0 0) (h3:m.yt=V.getD 3 0) (h4:m.yn=V.getD 4 0) (h5:m.rt=V.getD 5 0) (h6:m.rz=V.getD 6 0) (hs:m.m.so=.empty) (hn:m.m.nm=[]) (hy:m.m.sy=[]) (hr:m.m.rl=[]) (v4:0≤V.getD 4 0) (v6:0≤V.getD 6 0) :
 EqI m (runI [soI,ndI,yI,nmI,rI] m) (sonI m.m.sg m.m.zs V N m.t):=by
 unfold sonI;by_cases c:V.getD 0 0=0
 ·rw [if_pos c];have e:soI m=(0,m):=by unfold soI;rw [h0,if_pos c]
  rw [run_ok (by rw [e]),e];have:=needs_eq m V N hN h3 h4 h5 h6 hn hy hr v4 v6;rw [hs] at this;exact this
 ·rw [if_neg c];have e:soI m=((atN m.t (V.getD 0 0)).1,{ m with m:={ m.m with so:=(atN m.t (V.getD 0 0)).2 } }):=by unfold soI;rw [h0,if_neg c]
  by_cases c2:(atN m.t (V.getD 0 0)).1≠0
  ·rw [if_pos c2,run_err (by rw [e];exact c2),e];exact EqI.err rfl c2
  ·rw [if_neg c2,run_ok (by rw [e];simpa using c2),e];exact needs_eq { m with m:={ m.m with so:=(atN m.t (V.getD 0 0)).2 } } V N hN h3 h4 h5 h6 hn hy hr v4 v6
theorem ents_eq (m:Pm) (V N:List Int) (hN:m.N=N) (h0:m.so=V.getD 0 0) (h1:m.st=V.getD 1 0) (h2:m.sz=V.getD 2 0) (h3:m.yt=V.getD 3 0) (h4:m.yn=V.getD 4 0) (h5:m.rt=V.getD 5 0) (h6:m.rz=V.getD 6 0) (hs:m.m.so=.empty) (hn:m.m.nm=[]) (hy:m.m.sy=[]) (hr:m.m.rl=[]) (v4:0≤V.getD 4 0) (v6:0≤V.getD 6 0) :
 EqI m (runI entsL m) (entsI m.m.sg m.m.zs V N):=by
 unfold entsI entsL;generalize hB:bytesI m.m.sg m.m.zs (V.getD 1 0) (V.getD 2 0)=B;by_cases c:B.1≠0
 ·rw [if_pos c];have e:tableI m=(B.1,m):=by unfold tableI;rw [h1,h2,hB,if_pos c]
  rw [run_err (by rw [e];exact c),e];exact EqI.err rfl c
 ·rw [if_neg c];have e:tableI m=(chk B.2,{ m with t:=B.2 }):=by unfold tableI;rw [h1,h2,hB,if_neg c]
  by_cases c2:chk B.2≠0
  ·rw [if_pos c2,run_err (by rw [e];exact c2),e];exact EqI.err (chk_11 c2) (by decide)
  ·rw [if_neg c2,run_ok (by rw [e];simpa using c2),e];exact son_eq { m with t:=B.2 } V N hN h0 h3 h4 h5 h6 hs hn hy hr v4 v6
def entI (L:List Sg) (zs:List Int):Int×Na:=match L.find? (kindB 2) with
 | none=>(0,na0)
 | some d=>namedI L zs d
theorem dyn_eq (m:Pm) (hz:∀n∈m.m.zs,0≤n∧n≤255) (hs:m.m.so=.empty) (hd:m.m.nd=[]) (hn:m.m.nm=[]) (hy:m.m.sy=[]) (hr:m.m.rl=[]):EqI m (dynI m) (entI m.m.sg m.m.zs):=by
 unfold dynI entI;cases hf:m.m.sg.find? (kindB 2) with
 | none=>
   refine ⟨rfl,fun _=>?_⟩;have h:m.m=⟨m.m.k,m.m.e,m.m.s,m.m.c,m.m.sg,m.m.so,m.m.nd,m.m.nm,m.m.sy,m.m.rl,m.m.zs⟩:=rfl;exact h.trans (by rw [hs,hd,hn,hy,hr];rfl)
 | some d=>
   simp only
   unfold namedI;have hv:=fun i=>getDy_v (cutI_bd hz d.ot d.fi) i;generalize getDy (cutI m.m.zs d.ot d.fi).2=D at hv⊢;by_cases c:D.1≠0
   ·rw [if_pos c,if_pos c];exact EqI.err rfl c
   ·rw [if_neg c,if_neg c];exact ents_eq { m with N:=D.2.nd,so:=D.2.v.getD 0 0,st:=D.2.v.getD 1 0,sz:=D.2.v.getD 2 0,yt:=D.2.v.getD 3 0,yn:=D.2.v.getD 4 0,rt:=D.2.v.getD 5 0,rz:=D.2.v.getD 6 0 } D.2.v D.2.nd rfl rfl rfl rfl rfl rfl rfl rfl hs hn hy hr (hv 4) (hv 6)
theorem in_eq {s:Sg} {r:Rl} (hs:s.Ok) (hr:r.Ok) (h:s.ty=1→s.va≤4294967296∧s.me≤4294967296-s.va):inC r.of s=inI r s:=by
 unfold inC inI;rw [decide_eq_decide];have h1:=hs.va;have h2:=hs.me;have h3:=hr.of;constructor
 ·rintro ⟨a,b,c,d⟩;have:=h a;refine ⟨a,c,?_,?_⟩
  ·rw [IntKind.wrap_u64];omega
  ·rw [IntKind.wrap_u64,IntKind.wrap_u64];omega
 ·rintro ⟨a,b,c,d⟩;have:=h a;rw [IntKind.wrap_u64] at c;rw [IntKind.wrap_u64,IntKind.wrap_u64] at d;exact ⟨a,by omega,b,by omega⟩
theorem ok_eq {L:List Sg} {r:Rl} {n:Int} (hL:∀s∈L,s.Ok) (hr:r.Ok) (h:checkS L n=0):okC L r=heldR L r:=by
 unfold okC heldR
 congr 1
 rw [Bool.eq_iff_iff,List.any_eq_true,List.any_eq_true];have e:∀s∈L,inC r.of s=inI r s:=by
  intro s hs;refine in_eq (hL s hs) hr (fun h1=>?_);obtain ⟨k,hk,rfl⟩:=List.getElem_of_mem hs;have:=(alone0 (step1_alone (chk_all h k hk))).va;rw [List.getD_eq_getElem?_getD,List.getElem?_eq_getElem hk] at this;exact this (by rw [show ((some L[k]).getD sg0)=L[k] from rfl,h1];decide)
 constructor
 ·rintro ⟨s,hs,h1⟩;exact ⟨s,hs,by rw [←e s hs];exact h1⟩
 ·rintro ⟨s,hs,h1⟩;exact ⟨s,hs,by rw [e s hs];exact h1⟩
theorem any_eq {α:Type} {p q:α→Bool} {L:List α} (h:∀x∈L,p x=q x):L.any p=L.any q:=by
 rw [Bool.eq_iff_iff,List.any_eq_true,List.any_eq_true];constructor
 ·rintro ⟨s,hs,h1⟩;exact ⟨s,hs,by rw [←h s hs];exact h1⟩
 ·rintro ⟨s,hs,h1⟩;exact ⟨s,hs,by rw [h s hs];exact h1⟩
theorem bytesI_bd9 {L:List Sg} {zs:List Int} (h:∀n∈zs,0≤n∧n≤255) (a s:Int):∀n∈(bytesI L zs a s).2,0≤n∧n≤255:=bytesI_bd h _ _ _
theorem ent_rl {L:List Sg} {zs:List Int} (hz:∀n∈zs,0≤n∧n≤255):∀s∈(entI L zs).2.rl,s.Ok:=by
 have h0:∀s∈na0.rl,s.Ok:=fun s hs=>by cases hs
 have hR:∀V so nd nm sy,∀s∈(relaI L zs V so nd nm sy).2.rl,s.Ok:=by
  intro V so nd nm sy;unfold relaI;repeat' split
  all_goals first | exact h0 | (intro s hs;cases hs) | exact tabL_ok (bytesI_bd9 hz _ _)
 have hY:∀V t so nd,∀s∈(symsI L zs V t so nd).2.rl,s.Ok:=by
  intro V t so nd;unfold symsI;repeat' split
  all_goals first | exact h0 | exact hR _ _ _ _ _
 unfold entI;cases L.find? (kindB 2) with
 | none=>exact h0
 | some d=>
   unfold namedI entsI sonI needsI;simp only
   repeat' split
   all_goals first | exact h0 | exact hY _ _ _ _
theorem checks_eq {m:Pm} {L:List Sg} {n:Int} (hg:m.m.sg=L) (hL:∀s∈L,s.Ok) (hr:∀r∈m.m.rl,r.Ok) (h:checkS L n=0) :
 (runI [crI,csI] m).1=heldI L m.m.sy m.m.rl∧(runI [crI,csI] m).2=m:=by
 have e:m.m.rl.any (fun r=>!okC m.m.sg r)=m.m.rl.any (fun r=>!heldR L r):=any_eq (fun r hr'=>by rw [hg,ok_eq hL (hr r hr') h]);unfold heldI;by_cases c:m.m.rl.any (fun r=>!heldR L r)=true
 ·have e1:crI m=(40,m):=by unfold crI;rw [e,if_pos c]
  rw [if_pos c,run_err (by rw [e1];exact (by decide:(40:Int)≠0)),e1];exact ⟨rfl,rfl⟩
 ·have e1:crI m=(0,m):=by unfold crI;rw [e,if_neg c]
  rw [if_neg c,run_ok (by rw [e1]),e1];have e2:csI m=(symsE (L.find? (kindB 7)) m.m.sy,m):=by unfold csI;rw [hg]
  by_cases c2:symsE (L.find? (kindB 7)) m.m.sy≠0
  ·rw [run_err (by rw [e2];exact c2),e2];exact ⟨rfl,rfl⟩
  ·rw [run_ok (by rw [e2];simpa using c2),e2,run_nil];exact ⟨by simpa using (Classical.not_not.1 c2).symm,rfl⟩
theorem parse_eq (zs:List Int) (hz:∀n∈zs,0≤n∧n≤255):((runI allL (pm0 zs)).1,if (runI allL (pm0 zs)).1=0 then (runI allL (pm0 zs)).2.m else im0)=parseI zs:=by
 unfold parseI allL;have err:∀(Z:Int×Pm) (e:Int),Z.1=e→e≠0→((Z.1,if Z.1=0 then Z.2.m else im0):Int×Im)=(e,im0):=fun Z e h h0=>by rw [h,if_neg h0]
 by_cases c1:65536<zs.length
 ·rw [if_pos c1];have e1:takeI (pm0 zs)=(13,pm0 zs):=by unfold takeI;exact if_pos c1
  rw [run_err (by rw [e1];exact (by decide:(13:Int)≠0)),e1];exact err _ 13 rfl (by decide)
 rw [if_neg c1];have e1:takeI (pm0 zs)=(0,{ pm0 zs with m:={ im0 with zs:=zs } }):=by unfold takeI;exact if_neg c1
 rw [run_ok (by rw [e1]),e1];simp only
 obtain ⟨m1,hm1⟩:∃m1:Pm,({ pm0 zs with m:={ im0 with zs:=zs } }:Pm)=m1:=⟨_,rfl⟩
 rw [hm1];have hmz:m1.m.zs=zs:=by rw [←hm1]
 by_cases c2:zs.length<64
 ·rw [if_pos c2];have e2:headI m1=(10,m1):=by unfold headI;rw [hmz,if_pos c2]
  rw [run_err (by rw [e2];exact (by decide:(10:Int)≠0)),e2];exact err _ 10 rfl (by decide)
 rw [if_neg c2];by_cases c3:isHead zs=false
 ·rw [if_pos c3];have e2:headI m1=(11,m1):=by unfold headI;rw [hmz,if_neg c2,if_pos c3]
  rw [run_err (by rw [e2];exact (by decide:(11:Int)≠0)),e2];exact err _ 11 rfl (by decide)
 rw [if_neg c3];have hk:=kind_head (by simpa using c3);by_cases c4:kOf zs=4
 ·rw [if_pos c4];have e2:headI m1=(11,m1):=by unfold headI;rw [hmz,if_neg c2,if_neg c3,if_neg (by omega)]
  rw [run_err (by rw [e2];exact (by decide:(11:Int)≠0)),e2];exact err _ 11 rfl (by decide)
 rw [if_neg c4];have e2:headI m1=(0,{ m1 with m:={ m1.m with k:=kOf zs,e:=eOf zs,s:=sOf zs,c:=cOf zs } }):=by unfold headI;rw [hmz,if_neg c2,if_neg c3,if_pos (by omega)]
 rw [run_ok (by rw [e2]),e2];simp only
 obtain ⟨m2,hm2⟩:∃m2:Pm,({ m1 with m:={ m1.m with k:=kOf zs,e:=eOf zs,s:=sOf zs,c:=cOf zs } }:Pm)=m2:=⟨_,rfl⟩
 rw [hm2];have hz2:m2.m.zs=zs∧m2.m.s=sOf zs∧m2.m.c=cOf zs:=by rw [←hm2];exact ⟨hmz,rfl,rfl⟩
 obtain ⟨a1,a2,a3⟩:=hz2;have hTok:∀s∈(k4_tabR zs (sOf zs) (cOf zs)).2,s.Ok:=(k4_tabR_ok hz (sOf_bd hz (by omega)).1).1;generalize hT:k4_tabR zs (sOf zs) (cOf zs)=T at hTok⊢;by_cases c5:T.1≠0
 ·rw [if_pos c5];have e3:segsI m2=(T.1,m2):=by unfold segsI;rw [a1,a2,a3,hT,if_pos c5]
  rw [run_err (by rw [e3];exact c5),e3];exact err _ T.1 rfl c5
 rw [if_neg c5];by_cases c6:checkS T.2 zs.length≠0
 ·rw [if_pos c6];have e3:segsI m2=(checkS T.2 zs.length,m2):=by unfold segsI;rw [a1,a2,a3,hT,if_neg c5,if_pos c6]
  rw [run_err (by rw [e3];exact c6),e3];exact err _ _ rfl c6
 rw [if_neg c6];by_cases c7:T.2.find? (kindB 1)=none
 ·rw [if_pos c7];have e3:segsI m2=(11,m2):=by unfold segsI;rw [a1,a2,a3,hT,if_neg c5,if_neg c6,if_pos c7]
  rw [run_err (by rw [e3];exact (by decide:(11:Int)≠0)),e3];exact err _ 11 rfl (by decide)
 rw [if_neg c7];have e3:segsI m2=(0,{ m2 with m:={ m2.m with sg:=T.2 } }):=by unfold segsI;rw [a1,a2,a3,hT,if_neg c5,if_neg c6,if_neg c7]
 rw [run_ok (by rw [e3]),e3];simp only
 have hm3:({ m2 with m:={ m2.m with sg:=T.2 } }:Pm)={ pm0 zs with m:=⟨kOf zs,eOf zs,sOf zs,cOf zs,T.2,.empty,[],[],[],[],zs⟩ }:=by rw [←hm2,←hm1];rfl
 rw [hm3];obtain ⟨m3,hm3'⟩:∃m3:Pm,({ pm0 zs with m:=⟨kOf zs,eOf zs,sOf zs,cOf zs,T.2,.empty,[],[],[],[],zs⟩ }:Pm)=m3:=⟨_,rfl⟩
 rw [hm3'];have hd:=dyn_eq m3 (by rw [←hm3'];exact hz) (by rw [←hm3']) (by rw [←hm3']) (by rw [←hm3']) (by rw [←hm3']) (by rw [←hm3']);rw [show m3.m.sg=T.2 by rw [←hm3'],show m3.m.zs=zs by rw [←hm3']] at hd;have hI:imaI zs (kOf zs) (eOf zs) (sOf zs) (cOf zs) T.2=if (entI T.2 zs).1≠0 then ((entI T.2 zs).1,im0) else (if heldI T.2 (entI T.2 zs).2.sy (entI T.2 zs).2.rl≠0 then (heldI T.2 (entI T.2 zs).2.sy (entI T.2 zs).2.rl,im0) else (0,⟨kOf zs,eOf zs,sOf zs,cOf zs,T.2,(entI T.2 zs).2.so,(entI T.2 zs).2.nd,(entI T.2 zs).2.nm,(entI T.2 zs).2.sy,(entI T.2 zs).2.rl,zs⟩)):=by
  unfold imaI entI;cases T.2.find? (kindB 2)<;>rfl
 rw [hI];have hrl:=ent_rl (L:=T.2) hz;generalize entI T.2 zs=N at hd hrl⊢;by_cases c8:N.1≠0
 ·rw [if_pos c8,run_err (by rw [hd.1];exact c8)];exact err _ N.1 hd.1 c8
 rw [if_neg c8];have c8':N.1=0:=by simpa using c8
 rw [run_ok (by rw [hd.1];exact c8')];have hm4:=hd.2 c8';generalize (dynI m3).2=m4 at hm4⊢;have hm4':m4.m=⟨kOf zs,eOf zs,sOf zs,cOf zs,T.2,N.2.so,N.2.nd,N.2.nm,N.2.sy,N.2.rl,zs⟩:=by rw [hm4,←hm3']
 obtain ⟨hc1,hc2⟩:=checks_eq (m:=m4) (L:=T.2) (n:=zs.length) (by rw [hm4']) hTok (by rw [hm4'];exact hrl) (by simpa using c6);rw [hc2,hc1,hm4'];simp only
 by_cases c9:heldI T.2 N.2.sy N.2.rl≠0
 ·rw [if_pos c9,if_neg c9]
 ·rw [if_neg c9,if_pos (by simpa using c9)];have:heldI T.2 N.2.sy N.2.rl=0:=by simpa using c9
  rw [this]
theorem iparse9_any (B:Nat) (a:Option Addr) (len cap:Nat) (zs:List Int) (w:World) (hb:Bys w B a len zs) (hB:B≤w.heap.size) (hcap:len≤cap) (hcm:(cap:Int)≤9223372036854775807) (hnil:a=none→cap=0) :
 Calls Tryz.prog 10 #[.slice a len cap] w (ParseOwn (parseI zs) w):=by
 have:=iparse0_any B a len cap zs w hb hB hcap hcm hnil;rw [parse_eq zs hb.2.1] at this;exact this
end Go.Proofs.YtclgbdfkdbbinaaGreat
namespace Go.Proofs.YtclgbdfkdbbinaaGreat
open Go.RowKit Go.ChangeShapes Go.WideShapes

end Go.Proofs.YtclgbdfkdbbinaaGreat
namespace Go.Proofs.YtclgbdfkdbbinaaGreat
open Go.RowKit
structure Df where
 nm:ByteArray
 wh:Int
 of:Int
 wk:Bool
structure Df.Ok (w:World) (B:Nat) (s:Df):Prop where
 nm:s.nm.size≤maxLen
 wh:-9223372036854775808≤s.wh∧s.wh≤9223372036854775807
 of:0≤s.of∧s.of≤18446744073709551615
 wk:s.wk=s.wk
def Df.cells (s:Df):Array Value:=#[.string s.nm,.int .i64 s.wh,.int .u64 s.of,.bool s.wk]
def Df.val (s:Df):Value:=.agg #[.string s.nm,.int .i64 s.wh,.int .u64 s.of,.bool s.wk]
def Df.zero:Df:=⟨ByteArray.empty,0,0,false⟩
theorem Df.Ok.below {w w':World} {B:Nat} {s:Df} (h:s.Ok w B) (hb:Below B w w'):s.Ok w' B:=⟨h.nm,h.wh,h.of,h.wk⟩
theorem Df.Ok.more {w:World} {B B':Nat} {s:Df} (h:s.Ok w B) (hB:B≤B'):s.Ok w B':=⟨h.nm,h.wh,h.of,h.wk⟩
structure Df.At (w:World) (b o:Nat) (s:Df):Prop where
 c0:w.cell? ⟨b,o,none⟩=some (.string s.nm)
 c1:w.cell? ⟨b,o+1,none⟩=some (.int .i64 s.wh)
 c2:w.cell? ⟨b,o+2,none⟩=some (.int .u64 s.of)
 c3:w.cell? ⟨b,o+3,none⟩=some (.bool s.wk)
theorem Df.At.below {w w':World} {B b o:Nat} {s:Df} (h:Df.At w b o s) (hb:Below B w w') (hB:b<B):Df.At w' b o s:=
 ⟨(hb.cell hB).trans h.c0,(hb.cell hB).trans h.c1,(hb.cell hB).trans h.c2,(hb.cell hB).trans h.c3⟩
theorem Df.getD_mem {L:List Df} {k:Nat} (h:k<L.length):L.getD k Df.zero∈L:=by
 rw [List.getD_eq_getElem?_getD,List.getElem?_eq_getElem h];exact List.getElem_mem h
theorem Df.take_snoc {L:List Df} {k:Nat} (h:k<L.length):L.take (k+1)=L.take k++[L.getD k Df.zero]:=by
 rw [List.take_succ_eq_append_getElem h,List.getD_eq_getElem?_getD,List.getElem?_eq_getElem h];rfl
structure Df.Sl (w:World) (B:Nat) (a:Option Addr) (len:Nat) (L:List Df):Prop where
 hl:L.length=len
 hok:∀s∈L,s.Ok w B
 hc:0<len→∃b off,a=some ⟨b,off,none⟩∧b<B∧∀i,i<len→Df.At w b (off+i*4) (L.getD i Df.zero)
theorem Df.Sl.below {w w':World} {B:Nat} {a:Option Addr} {len:Nat} {L:List Df} (h:Df.Sl w B a len L) (hb:Below B w w'):Df.Sl w' B a len L:=
 ⟨h.hl,fun s hs=>(h.hok s hs).below hb,fun hl=>by
  obtain ⟨b,off,e,hB,hc⟩:=h.hc hl;exact ⟨b,off,e,hB,fun i hi=>(hc i hi).below hb hB⟩⟩
theorem Df.Sl.more {w:World} {B B':Nat} {a:Option Addr} {len:Nat} {L:List Df} (h:Df.Sl w B a len L) (hB:B≤B'):Df.Sl w B' a len L:=
 ⟨h.hl,fun s hs=>(h.hok s hs).more hB,fun hl=>by
  obtain ⟨b,off,e,hb,hc⟩:=h.hc hl;exact ⟨b,off,e,Nat.lt_of_lt_of_le hb hB,hc⟩⟩
theorem Df.Sl.okAt {w:World} {B:Nat} {a:Option Addr} {len:Nat} {L:List Df} (h:Df.Sl w B a len L) {i:Nat} (hi:i<len):(L.getD i Df.zero).Ok w B:=
 h.hok _ (Df.getD_mem (by have:=h.hl;omega))
structure Fx where
 wh:Int
 of:Int
 ty:Int
 df:Int
 ad:Int
structure Fx.Ok (w:World) (B:Nat) (s:Fx):Prop where
 wh:-9223372036854775808≤s.wh∧s.wh≤9223372036854775807
 of:0≤s.of∧s.of≤18446744073709551615
 ty:0≤s.ty∧s.ty≤4294967295
 df:-9223372036854775808≤s.df∧s.df≤9223372036854775807
 ad:-9223372036854775808≤s.ad∧s.ad≤9223372036854775807
def Fx.zero:Fx:=⟨0,0,0,0,0⟩
theorem Fx.Ok.below {w w':World} {B:Nat} {s:Fx} (h:s.Ok w B) (hb:Below B w w'):s.Ok w' B:=⟨h.wh,h.of,h.ty,h.df,h.ad⟩
theorem Fx.Ok.more {w:World} {B B':Nat} {s:Fx} (h:s.Ok w B) (hB:B≤B'):s.Ok w B':=⟨h.wh,h.of,h.ty,h.df,h.ad⟩
structure Fx.At (w:World) (b o:Nat) (s:Fx):Prop where
 c0:w.cell? ⟨b,o,none⟩=some (.int .i64 s.wh)
 c1:w.cell? ⟨b,o+1,none⟩=some (.int .u64 s.of)
 c2:w.cell? ⟨b,o+2,none⟩=some (.int .u32 s.ty)
 c3:w.cell? ⟨b,o+3,none⟩=some (.int .i64 s.df)
 c4:w.cell? ⟨b,o+4,none⟩=some (.int .i64 s.ad)
theorem Fx.At.below {w w':World} {B b o:Nat} {s:Fx} (h:Fx.At w b o s) (hb:Below B w w') (hB:b<B):Fx.At w' b o s:=
 ⟨(hb.cell hB).trans h.c0,(hb.cell hB).trans h.c1,(hb.cell hB).trans h.c2,(hb.cell hB).trans h.c3,(hb.cell hB).trans h.c4⟩
theorem Fx.getD_mem {L:List Fx} {k:Nat} (h:k<L.length):L.getD k Fx.zero∈L:=by
 rw [List.getD_eq_getElem?_getD,List.getElem?_eq_getElem h];exact List.getElem_mem h
structure Fx.Sl (w:World) (B:Nat) (a:Option Addr) (len:Nat) (L:List Fx):Prop where
 hl:L.length=len
 hok:∀s∈L,s.Ok w B
 hc:0<len→∃b off,a=some ⟨b,off,none⟩∧b<B∧∀i,i<len→Fx.At w b (off+i*5) (L.getD i Fx.zero)
theorem Fx.Sl.below {w w':World} {B:Nat} {a:Option Addr} {len:Nat} {L:List Fx} (h:Fx.Sl w B a len L) (hb:Below B w w'):Fx.Sl w' B a len L:=
 ⟨h.hl,fun s hs=>(h.hok s hs).below hb,fun hl=>by
  obtain ⟨b,off,e,hB,hc⟩:=h.hc hl;exact ⟨b,off,e,hB,fun i hi=>(hc i hi).below hb hB⟩⟩
theorem Fx.Sl.more {w:World} {B B':Nat} {a:Option Addr} {len:Nat} {L:List Fx} (h:Fx.Sl w B a len L) (hB:B≤B'):Fx.Sl w B' a len L:=
 ⟨h.hl,fun s hs=>(h.hok s hs).more hB,fun hl=>by
  obtain ⟨b,off,e,hb,hc⟩:=h.hc hl;exact ⟨b,off,e,Nat.lt_of_lt_of_le hb hB,hc⟩⟩
theorem Fx.Sl.okAt {w:World} {B:Nat} {a:Option Addr} {len:Nat} {L:List Fx} (h:Fx.Sl w B a len L) {i:Nat} (hi:i<len):(L.getD i Fx.zero).Ok w B:=
 h.hok _ (Fx.getD_mem (by have:=h.hl;omega))
structure Sp where
 k:Int
 so:ByteArray
 nd:List ByteArray
 en:Int
 co:List Int
 da:List Int
 bs:Int
 tl:List Int
 tb:Int
 df:List Df
 fx:List Fx
structure Spv where
 k:Int
 so:ByteArray
 nd:Sh
 en:Int
 co:Sh
 da:Sh
 bs:Int
 tl:Sh
 tb:Int
 df:Sh
 fx:Sh
def Spv.val (x:Spv):Value:=.agg #[.int .i64 x.k,.string x.so,.slice x.nd.a x.nd.n x.nd.c,.int .u64 x.en,.slice x.co.a x.co.n x.co.c,.slice x.da.a x.da.n x.da.c,.int .u64 x.bs,.slice x.tl.a x.tl.n x.tl.c,.int .u64 x.tb,.slice x.df.a x.df.n x.df.c,.slice x.fx.a x.fx.n x.fx.c]
structure Spv.Is (w:World) (B:Nat) (x:Spv) (m:Sp):Prop where
 k:x.k=m.k
 so:x.so=m.so
 nd:Strs w B x.nd.a x.nd.n m.nd
 en:x.en=m.en
 co:Bys w B x.co.a x.co.n m.co
 da:Bys w B x.da.a x.da.n m.da
 bs:x.bs=m.bs
 tl:Bys w B x.tl.a x.tl.n m.tl
 tb:x.tb=m.tb
 df:Df.Sl w B x.df.a x.df.n m.df
 fx:Fx.Sl w B x.fx.a x.fx.n m.fx
 ond:x.nd.Ok
 oco:x.co.Ok
 oda:x.da.Ok
 otl:x.tl.Ok
 odf:x.df.Ok
 ofx:x.fx.Ok
 bk:-9223372036854775808≤m.k∧m.k≤9223372036854775807
 ben:0≤m.en∧m.en≤18446744073709551615
 bbs:0≤m.bs∧m.bs≤18446744073709551615
 btb:0≤m.tb∧m.tb≤18446744073709551615
theorem Spv.Is.below {w w':World} {B:Nat} {x:Spv} {m:Sp} (h:x.Is w B m) (hb:Below B w w'):x.Is w' B m:=
 ⟨h.k,h.so,h.nd.below hb,h.en,h.co.below hb,h.da.below hb,h.bs,h.tl.below hb,h.tb,h.df.below hb,h.fx.below hb,h.ond,h.oco,h.oda,h.otl,h.odf,h.ofx,h.bk,h.ben,h.bbs,h.btb⟩
theorem Spv.Is.more {w:World} {B B':Nat} {x:Spv} {m:Sp} (h:x.Is w B m) (hB:B≤B'):x.Is w B' m:=
 ⟨h.k,h.so,h.nd.more hB,h.en,h.co.more hB,h.da.more hB,h.bs,h.tl.more hB,h.tb,h.df.more hB,h.fx.more hB,h.ond,h.oco,h.oda,h.otl,h.odf,h.ofx,h.bk,h.ben,h.bbs,h.btb⟩
def badDf (d:Df):Bool:=decide (d.wh<0∨3<d.wh)
def badFx (n:Int) (f:Fx):Bool:=decide ((f.wh≠1∧f.wh≠2)∨n≤f.df)
def mayI (m:Sp):Int:=
 if m.k≠2∧m.k≠3 then 1
 else if m.df.any badDf then 1
 else if m.fx.any (badFx m.df.length) then 1
 else if 1048576<m.bs∨1048576<m.tb∨65536<m.co.length+m.da.length+m.tl.length then 13
 else 0
theorem any_at {α:Type} {p:α→Bool} {L:List α} {k:Nat} (d:α) (hk:k<L.length) (h:p (L.getD k d)=true):L.any p=true:=
 List.any_eq_true.2 ⟨_,by rw [List.getD_eq_getElem?_getD,List.getElem?_eq_getElem hk];exact List.getElem_mem hk,h⟩
theorem any_no {α:Type} {p:α→Bool} {L:List α} (d:α) (h:∀k,k<L.length→p (L.getD k d)=false):L.any p=false:=by
 rw [List.any_eq_false];intro x hx;obtain ⟨i,hi,rfl⟩:=List.getElem_of_mem hx;have:=h i hi;rw [List.getD_eq_getElem?_getD,List.getElem?_eq_getElem hi] at this;rw [show p L[i]=false from this];decide
theorem no_upto {P:Nat→Prop} {k:Nat} (h:∀j,j<k→P j) (hk:P k):∀j,j<k+1→P j:=by
 intro j hj;by_cases e:j=k
 ·subst e;exact hk
 ·exact h j (by omega)
structure Bi where
 v0:Int
 v1:Int
 v2:Int
 v3:Int
 v4:Int
 v5:Int
 v6:Int
 dy:Int
 fr:Int
 cp:Int
 dp:Int
 tp:Int
structure Bu where
 s:Spv
 tb:Sh
 pd:Sh
 pn:Sh
 i:Bi
def Bu.cells (x:Bu):Array Value:=#[.int .i64 x.s.k,.string x.s.so,.slice x.s.nd.a x.s.nd.n x.s.nd.c,.int .u64 x.s.en,.slice x.s.co.a x.s.co.n x.s.co.c,.slice x.s.da.a x.s.da.n x.s.da.c,.int .u64 x.s.bs,.slice x.s.tl.a x.s.tl.n x.s.tl.c,.int .u64 x.s.tb,.slice x.s.df.a x.s.df.n x.s.df.c,.slice x.s.fx.a x.s.fx.n x.s.fx.c,.slice x.tb.a x.tb.n x.tb.c,.slice x.pd.a x.pd.n x.pd.c,.slice x.pn.a x.pn.n x.pn.c,.int .u64 x.i.v0,.int .u64 x.i.v1,.int .u64 x.i.v2,.int .u64 x.i.v3,.int .u64 x.i.v4,.int .u64 x.i.v5,.int .u64 x.i.v6,.int .u64 x.i.dy,.int .u64 x.i.fr,.int .u64 x.i.cp,.int .u64 x.i.dp,.int .u64 x.i.tp]
def Bu.val (x:Bu):Value:=.agg #[.int .i64 x.s.k,.string x.s.so,.slice x.s.nd.a x.s.nd.n x.s.nd.c,.int .u64 x.s.en,.slice x.s.co.a x.s.co.n x.s.co.c,.slice x.s.da.a x.s.da.n x.s.da.c,.int .u64 x.s.bs,.slice x.s.tl.a x.s.tl.n x.s.tl.c,.int .u64 x.s.tb,.slice x.s.df.a x.s.df.n x.s.df.c,.slice x.s.fx.a x.s.fx.n x.s.fx.c,.slice x.tb.a x.tb.n x.tb.c,.slice x.pd.a x.pd.n x.pd.c,.slice x.pn.a x.pn.n x.pn.c,.int .u64 x.i.v0,.int .u64 x.i.v1,.int .u64 x.i.v2,.int .u64 x.i.v3,.int .u64 x.i.v4,.int .u64 x.i.v5,.int .u64 x.i.v6,.int .u64 x.i.dy,.int .u64 x.i.fr,.int .u64 x.i.cp,.int .u64 x.i.dp,.int .u64 x.i.tp]
structure Bi.Ok (i:Bi):Prop where
 v0:u64B i.v0
 v1:u64B i.v1
 v2:u64B i.v2
 v3:u64B i.v3
 v4:u64B i.v4
 v5:u64B i.v5
 v6:u64B i.v6
 dy:u64B i.dy
 fr:u64B i.fr
 cp:u64B i.cp
 dp:u64B i.dp
 tp:u64B i.tp
structure Bu.Ok (x:Bu):Prop where
 nd:x.s.nd.Ok
 co:x.s.co.Ok
 da:x.s.da.Ok
 tl:x.s.tl.Ok
 df:x.s.df.Ok
 fx:x.s.fx.Ok
 tb:x.tb.Ok
 pd:x.pd.Ok
 pn:x.pn.Ok
 en:u64B x.s.en
 bs:u64B x.s.bs
 tz:u64B x.s.tb
 i:x.i.Ok
structure Bm where
 m:Sp
 tb:List Int
 pd:List Int
 pn:List Int
 i:Bi
structure Bu.Is (w:World) (B:Nat) (x:Bu) (b:Bm):Prop where
 s:x.s.Is w B b.m
 tb:Bys w B x.tb.a x.tb.n b.tb
 pd:Nus w B x.pd.a x.pd.n b.pd
 pn:Nus w B x.pn.a x.pn.n b.pn
 i:x.i=b.i
 ok:x.Ok
theorem Bu.Is.below {w w':World} {B:Nat} {x:Bu} {b:Bm} (h:x.Is w B b) (hb:Below B w w'):x.Is w' B b:=⟨h.s.below hb,h.tb.below hb,h.pd.below hb,h.pn.below hb,h.i,h.ok⟩
theorem Bu.Is.more {w:World} {B B':Nat} {x:Bu} {b:Bm} (h:x.Is w B b) (hB:B≤B'):x.Is w B' b:=⟨h.s.more hB,h.tb.more hB,h.pd.more hB,h.pn.more hB,h.i,h.ok⟩
theorem Sh.Ok.i {h:Sh} (k:h.Ok):(h.n:Int)≤9223372036854775807:=by have:=k.le;have:=k.max;omega
theorem u64_z:u64B 0:=⟨by decide,by decide⟩
def segN (ty fl at' size bz:Int):Sg:=⟨ty,fl,at',at',size,IntKind.u64.wrap (size+bz),if ty=1 then 256 else 8⟩
def datN (dn tn:Nat) (i:Bi):Int:=if 0<tn then IntKind.u64.wrap (IntKind.u64.wrap (i.tp+tn)-i.dp) else dn
def segs1 (cn:Nat) (i:Bi):List Sg:=[segN 1 4 0 i.fr 0]++(if 0<cn then [segN 1 5 i.cp cn 0] else [])
def segs2 (dn tn:Nat) (bz:Int) (i:Bi):List Sg:=if 0<datN dn tn i∨0<bz then [{ segN 1 6 i.dp (datN dn tn i) bz with ot:=if datN dn tn i=0 then 0 else i.dp }] else []
def segs3 (i:Bi):List Sg:=[segN 2 4 i.dy (IntKind.u64.wrap (i.v1-i.dy)) 0]
def segs4 (tn:Nat) (tz:Int) (i:Bi):List Sg:=if 0<tn then [segN 7 4 i.tp tn tz] else if 0<tz then [segN 7 4 0 0 tz] else []
def segsN (x:Bu):List Sg:=segs1 x.s.co.n x.i++segs2 x.s.da.n x.s.tl.n x.s.bs x.i++segs3 x.i++segs4 x.s.tl.n x.s.tb x.i
theorem u64_bd (n:Int):u64B (IntKind.u64.wrap n):=by rw [IntKind.wrap_u64];unfold u64B;omega
theorem segsN_len (x:Bu):2≤(segsN x).length∧(segsN x).length≤5:=by
 unfold segsN segs1 segs2 segs3 segs4;repeat' split
 all_goals simp
def endN (x:Bu):Int:=if 0<x.s.tl.n then IntKind.u64.wrap (x.i.tp+x.s.tl.n) else if 0<x.s.da.n then IntKind.u64.wrap (x.i.dp+x.s.da.n) else if 0<x.s.co.n then IntKind.u64.wrap (x.i.cp+x.s.co.n) else x.i.fr
def addrN (i:Bi) (wh of:Int):Int:=if wh=1 then IntKind.u64.wrap (i.cp+of) else if wh=2 then IntKind.u64.wrap (i.dp+of) else if wh=3 then of else 0
def kindN (wh:Int):Int:=if wh=1 then 2 else if wh=2 then 1 else if wh=3 then 6 else 0
def infoN (d:Df):Int:=(if d.wk then 32 else 16)+kindN d.wh
def symN9 (i:Bi) (d:Df) (p:Int):Sy:=⟨IntKind.u32.wrap p,infoN d,0,(if d.wh=0 then 0 else 1),addrN i d.wh d.of,0⟩
def syms9 (b:Bm) (k:Nat):List Sy:=(List.range k).map fun j=>symN9 b.i (b.m.df.getD j Df.zero) (b.pd.getD j 0)
def symsN (b:Bm):List Sy:=if b.m.df.length=0 then [] else Sy.zero :: syms9 b b.m.df.length
def relN9 (i:Bi) (f:Fx):Rl:=⟨addrN i f.wh f.of,f.ty,(if 0≤f.df then IntKind.u32.wrap (1+IntKind.u32.wrap f.df) else 0),f.ad⟩
def relsN (b:Bm) (k:Nat):List Rl:=(List.range k).map fun j=>relN9 b.i (b.m.fx.getD j Fx.zero)
def upI (x n:Int):Int:=(x+n-1) / n*n
def padN (m n:Nat):Nat:=(n-m % n) % n
def cleanB (L:List ByteArray):Bool:=L.all fun s=>(bs s).all fun c=>decide (c≠0)
theorem cleanB_iff (L:List ByteArray):cleanB L=true↔Clean L:=by
 unfold cleanB Clean;rw [List.all_eq_true];constructor
 ·intro h i hi k hk;have h1:=h _ (List.getElem_mem hi);rw [List.all_eq_true] at h1;have e:nm L i=L[i]:=by unfold nm;rw [List.getD_eq_getElem?_getD,List.getElem?_eq_getElem hi];rfl
  rw [e] at hk⊢;have h2:=h1 _ (List.getElem_mem hk);rw [decide_eq_true_eq] at h2;rw [List.getD_eq_getElem?_getD,List.getElem?_eq_getElem hk];exact h2
 ·intro h s hs;obtain ⟨i,hi,rfl⟩:=List.getElem_of_mem hs;rw [List.all_eq_true];intro c hc;obtain ⟨k,hk,rfl⟩:=List.getElem_of_mem hc;have e:nm L i=L[i]:=by unfold nm;rw [List.getD_eq_getElem?_getD,List.getElem?_eq_getElem hi];rfl
  have h2:=h i hi k (by rw [e];exact hk);rw [e,List.getD_eq_getElem?_getD,List.getElem?_eq_getElem hk] at h2;rw [decide_eq_true_eq];exact h2
def listB (m:Sp):List ByteArray:=m.so :: (m.nd++m.df.map (·.nm))
theorem listB_len (m:Sp):(listB m).length=1+m.nd.length+m.df.length:=by simp [listB];omega
def tabB (m:Sp):List Int:=tab (listB m) (listB m).length
def outB (m:Sp):List Int:=outs (listB m) (listB m).length
theorem outB_len (m:Sp):(outB m).length=1+m.nd.length+m.df.length:=by unfold outB;rw [outs_len,listB_len]
def hasC (m:Sp):Bool:=decide (0<m.co.length)
def hasD (m:Sp):Bool:=decide (0<m.da.length∨0<m.tl.length∨0<m.bs)
def hasT (m:Sp):Bool:=decide (0<m.tl.length∨0<m.tb)
def one (b:Bool):Int:=if b then 1 else 0
def countB (m:Sp):Int:=2+one (hasC m)+one (hasD m)+one (hasT m)
def symN (m:Sp):Int:=if 0<m.df.length then m.df.length+1 else 0
def relN (m:Sp):Int:=24*m.fx.length
def needO (m:Sp):List Int:=((outB m).drop 1).take m.nd.length
theorem needO_len (m:Sp):(needO m).length=m.nd.length:=by unfold needO;rw [List.length_take,List.length_drop,outB_len];omega
def v0B (m:Sp):List Int:=[(outB m).getD 0 0,0,(tabB m).length,0,symN m,0,relN m]
def dynB (m:Sp):Int:=64+56*countB m
def sizeB (m:Sp):Int:=(putBy (needO m) (v0B m)).length
def strB (m:Sp):Int:=dynB m+sizeB m
def symB (m:Sp):Int:=upI (strB m+(tabB m).length) 8
def relB (m:Sp):Int:=symB m+24*symN m
def endB (m:Sp):Int:=relB m+relN m
def codeB (m:Sp):Int:=upI (endB m) 256
def dataB (m:Sp):Int:=upI (codeB m+m.co.length) 256
def tlsB (m:Sp):Int:=upI (dataB m+m.da.length) 8
def entryB (m:Sp):Int:=if hasC m then IntKind.u64.wrap (codeB m+m.en) else 0
def vB (m:Sp):List Int:=[(outB m).getD 0 0,strB m,(tabB m).length,symB m,symN m,relB m,relN m]
def datF (m:Sp):Int:=if 0<m.tl.length then tlsB m+m.tl.length-dataB m else m.da.length
def segsB (m:Sp):List Sg:=
 [⟨1,4,0,0,endB m,endB m,256⟩]
 ++(if hasC m then [⟨1,5,codeB m,codeB m,m.co.length,m.co.length,256⟩] else [])
 ++(if hasD m then [⟨1,6,(if datF m=0 then 0 else dataB m),dataB m,datF m,datF m+m.bs,256⟩] else [])
 ++[⟨2,4,dynB m,dynB m,sizeB m,sizeB m,8⟩]
 ++(if hasT m then [⟨7,4,(if 0<m.tl.length then tlsB m else 0),(if 0<m.tl.length then tlsB m else 0),m.tl.length,m.tl.length+m.tb,8⟩] else [])
def symOf (m:Sp) (d:Df) (p:Int):Sy:=
 ⟨p,(if d.wk then 32 else 16)+(if d.wh=0 then 0 else if d.wh=1 then 2 else if d.wh=2 then 1 else 6),0,(if d.wh=0 then 0 else 1),
  (if d.wh=0 then 0 else if d.wh=1 then IntKind.u64.wrap (d.of+codeB m) else if d.wh=2 then IntKind.u64.wrap (d.of+dataB m) else d.of),0⟩
def symsB (m:Sp) (k:Nat):List Sy:=(List.range k).map fun i=>symOf m (m.df.getD i Df.zero) ((outB m).getD (1+m.nd.length+i) 0)
def relOf (m:Sp) (f:Fx):Rl:=
 ⟨(if f.wh=2 then IntKind.u64.wrap (f.of+dataB m) else IntKind.u64.wrap (f.of+codeB m)),f.ty,(if 0≤f.df then f.df+1 else 0),f.ad⟩
def relsB (m:Sp) (k:Nat):List Rl:=(List.range k).map fun i=>relOf m (m.fx.getD i Fx.zero)
def padB (zs:List Int) (n:Nat):List Int:=zs++List.replicate (padN zs.length n) 0
def frontB (m:Sp):List Int:=enc m.k (entryB m) 64 (countB m)++(segsB m).flatMap encS++putBy (needO m) (vB m)
def headB (m:Sp):List Int:=padB (frontB m++tabB m) 8
def symsP (m:Sp):List Int:=headB m++((if 0<m.df.length then List.replicate 24 0 else [])++(symsB m m.df.length).flatMap encY)
def relsP (m:Sp):List Int:=symsP m++(relsB m m.fx.length).flatMap encL
def codeP (m:Sp):List Int:=if hasC m then padB (relsP m) 256++m.co else relsP m
def dataP (m:Sp):List Int:=if 0<m.da.length then padB (codeP m) 256++m.da else codeP m
def fileB (m:Sp):List Int:=if 0<m.tl.length then dataP m++(List.replicate ((tlsB m).toNat-(dataP m).length) 0++m.tl) else dataP m
def buildI (m:Sp):Int×List Int:=
 if mayI m≠0 then (mayI m,[])
 else if cleanB (listB m)=false then (1,[])
 else if 65536<(tabB m).length then (13,[])
 else if 65536<(fileB m).length then (13,[])
 else (0,fileB m)
theorem kindOf_any (wh:Int) (w:World):Calls Tryz.prog 156 #[.int .i64 wh] w fun r w'=>r=.returned (.int .i64 (kindN wh))∧w=w':=by
 unfold kindN;by_cases h1:wh=1
 ·subst h1;go_enter Tryz.func156,Tryz.ntmps156
  go_wp2;go_ret;exact ⟨rfl,rfl⟩
 ·have h1b:(wh==1)=false:=by simpa using h1
  by_cases h2:wh=2
  ·subst h2;go_enter Tryz.func156,Tryz.ntmps156
   go_wp2;go_ret;exact ⟨rfl,rfl⟩
  ·have h2b:(wh==2)=false:=by simpa using h2
   by_cases h3:wh=3
   ·subst h3;go_enter Tryz.func156,Tryz.ntmps156
    go_wp2;go_ret;exact ⟨rfl,rfl⟩
   ·have h3b:(wh==3)=false:=by simpa using h3
    rw [if_neg h1,if_neg h2,if_neg h3];clear h1 h2 h3;go_enter Tryz.func156,Tryz.ntmps156
    go_wp2;go_ret;exact ⟨rfl,rfl⟩
theorem addr9_any (x:Bu) (wh of:Int) (w:World) (hx:x.Ok) (o0:0≤of) (o1:of≤18446744073709551615) :
 Calls Tryz.prog 127 #[x.val,.int .i64 wh,.int .u64 of] w fun r w'=>r=.returned (.int .u64 (addrN x.i wh of))∧w'=w.alloc (.cells x.cells 84):=by
 obtain ⟨⟨k,so,⟨nda,ndn,ndc⟩,en,⟨coa,con,coc⟩,⟨daa,dan,dac⟩,bz,⟨tla,tln,tlc⟩,tz,⟨dfa,dfn,dfc⟩,⟨fxa,fxn,fxc⟩⟩,⟨tba,tbn,tbc⟩,⟨pda,pdn,pdc⟩,⟨pna,pnn,pnc⟩,⟨v0,v1,v2,v3,v4,v5,v6,dy,fr,cp,dp,tp⟩⟩:=x;clear hx;unfold Bu.val Bu.cells addrN;simp only
 by_cases h1:wh=1
 ·subst h1;go_enter Tryz.func127,Tryz.ntmps127
  go_wp2;go_ret;exact ⟨rfl,rfl⟩
 ·have h1b:(wh==1)=false:=by simpa using h1
  by_cases h2:wh=2
  ·subst h2;go_enter Tryz.func127,Tryz.ntmps127
   go_wp2;go_ret;exact ⟨rfl,rfl⟩
  ·have h2b:(wh==2)=false:=by simpa using h2
   by_cases h3:wh=3
   ·subst h3;go_enter Tryz.func127,Tryz.ntmps127
    go_wp2;go_ret;exact ⟨rfl,rfl⟩
   ·have h3b:(wh==3)=false:=by simpa using h3
    rw [if_neg h1,if_neg h2,if_neg h3];clear h1 h2 h3;go_enter Tryz.func127,Tryz.ntmps127
    go_wp2;go_ret;exact ⟨rfl,rfl⟩
theorem info9_any (d:Df) (w:World) :
 Calls Tryz.prog 126 #[d.val] w fun r w'=>r=.returned (.int .u8 (infoN d))∧w'=w.alloc (.cells d.cells 61):=by
 obtain ⟨nm,wh,of,wk⟩:=d;have HK:=Lib.hid (fun w1=>kindOf_any wh w1);have hk:0≤kindN wh∧kindN wh≤6:=by unfold kindN;repeat' split<;>omega
 unfold Df.val Df.cells infoN;simp only
 generalize kindN wh=q at HK hk;cases wk with
 | true=>
   have HW:Hid (IntKind.u8.wrap (32+q)=32+q):=Lib.hid (by rw [IntKind.wrap_u8];omega);rw [if_pos rfl];go_enter Tryz.func126,Tryz.ntmps126
   go_wp2_with fail;refine (HK.out _).mono ?_;rintro r w2 ⟨rfl,rfl⟩;go_wp2;go_ret;exact ⟨by first | rfl | rw [HW.out],rfl⟩
 | false=>
   have HW:Hid (IntKind.u8.wrap (16+q)=16+q):=Lib.hid (by rw [IntKind.wrap_u8];omega);rw [if_neg (by decide)];go_enter Tryz.func126,Tryz.ntmps126
   go_wp2_with fail;refine (HK.out _).mono ?_;rintro r w2 ⟨rfl,rfl⟩;go_wp2;go_ret;exact ⟨by first | rfl | rw [HW.out],rfl⟩
theorem p2_e9:IsP2 8∧IsP2 256:=⟨⟨3,by decide,by decide⟩,⟨8,by decide,by decide⟩⟩
theorem up9_any (x n:Int) (w:World) (x0:0≤x) (x1:x≤1152921504606846976) (hn:n=8∨n=256) :
 Calls Tryz.prog 69 #[.int .u64 x,.int .u64 n] w fun r w'=>r=.returned (.int .u64 (upI x n))∧w=w':=by
 have HU:Hid (∀w1,Calls Tryz.prog 124 #[.int .u64 x,.int .u64 n] w1 fun r w'=>r=.returned (.tuple #[.int .u64 (upI x n),.int .i64 0])∧w1=w'):=Lib.hid (fun w1=>by
  have hp:IsP2 n:=by rcases hn with rfl | rfl;exact p2_e9.1;exact p2_e9.2
  by_cases h:x / n*n=x
  ·have e:upI x n=x:=by unfold upI;rcases hn with rfl | rfl<;>omega
   rw [e];exact up_same x n w1 x0 (by omega) hp h
  ·have e:upI x n=x / n*n+n:=by unfold upI;rcases hn with rfl | rfl<;>omega
   rw [e];exact up_next x n w1 x0 (by omega) hp h (by rcases hn with rfl | rfl<;>omega))
 clear hn;generalize upI x n=q at HU;go_enter Tryz.func69,Tryz.ntmps69
 go_wp2_with fail;refine (HU.out _).mono ?_;rintro r w2 ⟨rfl,rfl⟩;go_wp2;go_ret;exact ⟨rfl,rfl⟩
theorem end9_any (x:Bu) (w:World) (hx:x.Ok) :
 Calls Tryz.prog 32 #[x.val] w fun r w'=>r=.returned (.int .u64 (endN x))∧Below w.heap.size w w':=by
 have hc:=hx.co.i;have hd:=hx.da.i;have ht:=hx.tl.i;obtain ⟨⟨k,so,⟨nda,ndn,ndc⟩,en,⟨coa,con,coc⟩,⟨daa,dan,dac⟩,bz,⟨tla,tln,tlc⟩,tz,⟨dfa,dfn,dfc⟩,⟨fxa,fxn,fxc⟩⟩,⟨tba,tbn,tbc⟩,⟨pda,pdn,pdc⟩,⟨pna,pnn,pnc⟩,⟨v0,v1,v2,v3,v4,v5,v6,dy,fr,cp,dp,tp⟩⟩:=x;have HB:Hid (Below w.heap.size w (w.alloc (.cells #[.int .i64 k,.string so,.slice nda ndn ndc,.int .u64 en,.slice coa con coc,.slice daa dan dac,.int .u64 bz,.slice tla tln tlc,.int .u64 tz,.slice dfa dfn dfc,.slice fxa fxn fxc,.slice tba tbn tbc,.slice pda pdn pdc,.slice pna pnn pnc,.int .u64 v0,.int .u64 v1,.int .u64 v2,.int .u64 v3,.int .u64 v4,.int .u64 v5,.int .u64 v6,.int .u64 dy,.int .u64 fr,.int .u64 cp,.int .u64 dp,.int .u64 tp] 84))):=Lib.hid ((Below.refl _ _).alloc (Nat.le_refl _) _);clear hx;unfold Bu.val endN;simp only at hc hd ht⊢;by_cases h1:0<tln
 ·rw [if_pos h1];have h1i:(0:Int)<tln:=by omega
  clear h1;go_enter Tryz.func32,Tryz.ntmps32
  go_wp2;go_ret;exact ⟨rfl,HB.out⟩
 ·rw [if_neg h1];have h1i:¬(0:Int)<tln:=by omega
  clear h1;by_cases h2:0<dan
  ·rw [if_pos h2];have h2i:(0:Int)<dan:=by omega
   clear h2;go_enter Tryz.func32,Tryz.ntmps32
   go_wp2;go_ret;exact ⟨rfl,HB.out⟩
  ·rw [if_neg h2];have h2i:¬(0:Int)<dan:=by omega
   clear h2;by_cases h3:0<con
   ·rw [if_pos h3];have h3i:(0:Int)<con:=by omega
    clear h3;go_enter Tryz.func32,Tryz.ntmps32
    go_wp2;go_ret;exact ⟨rfl,HB.out⟩
   ·rw [if_neg h3];have h3i:¬(0:Int)<con:=by omega
    clear h3;go_enter Tryz.func32,Tryz.ntmps32
    go_wp2;go_ret;exact ⟨rfl,HB.out⟩
theorem seg9_any (ty fl at' size bz:Int) (w:World) (s0:u64B size) (b0:u64B bz) :
 Calls Tryz.prog 122 #[.int .u32 ty,.int .u32 fl,.int .u64 at',.int .u64 size,.int .u64 bz] w fun r w'=>r=.returned (segN ty fl at' size bz).val∧Below w.heap.size w w':=by
 unfold segN Sg.val;obtain ⟨me,hme⟩:∃me,IntKind.u64.wrap (size+bz)=me:=⟨_,rfl⟩
 simp only
 rw [hme];by_cases h1:ty=1
 ·subst h1;rw [if_pos rfl];have HB:Hid (∀o1 o2,Below w.heap.size w ((w.alloc o1).alloc o2)):=Lib.hid (fun o1 o2=>((Below.refl _ _).alloc (Nat.le_refl _) o1).alloc (by simp) o2);obtain ⟨z0,z1,z2,z3,z4,z5,z6⟩:=Blk.c7 ((Blk.new w #[.int .u32 1,.int .u32 fl,.int .u64 at',.int .u64 at',.int .u64 size,.int .u64 me,.int .u64 256] 65).alloc (.cells #[.int .u32 1,.int .u32 fl,.int .u64 at',.int .u64 at',.int .u64 size,.int .u64 me,.int .u64 256] 65));go_enter Tryz.func122,Tryz.ntmps122
  go_wp2;refine bodyPost_ret (v:=.agg #[.int .u32 1,.int .u32 fl,.int .u64 at',.int .u64 at',.int .u64 size,.int .u64 me,.int .u64 256]) (by simp [results,Tryz.results122,go_sem,z0,z1,z2,z3,z4,z5,z6]) rfl ?_;exact ⟨rfl,HB.out _ _⟩
 ·have h1b:(ty==1)=false:=by simpa using h1
  rw [if_neg h1];clear h1;have HB:Hid (∀o1 o2,Below w.heap.size w ((w.alloc o1).alloc o2)):=Lib.hid (fun o1 o2=>((Below.refl _ _).alloc (Nat.le_refl _) o1).alloc (by simp) o2);obtain ⟨z0,z1,z2,z3,z4,z5,z6⟩:=Blk.c7 ((Blk.new w #[.int .u32 ty,.int .u32 fl,.int .u64 at',.int .u64 at',.int .u64 size,.int .u64 me,.int .u64 8] 65).alloc (.cells #[.int .u32 ty,.int .u32 fl,.int .u64 at',.int .u64 at',.int .u64 size,.int .u64 me,.int .u64 8] 65));go_enter Tryz.func122,Tryz.ntmps122
  go_wp2;refine bodyPost_ret (v:=.agg #[.int .u32 ty,.int .u32 fl,.int .u64 at',.int .u64 at',.int .u64 size,.int .u64 me,.int .u64 8]) (by simp [results,Tryz.results122,go_sem,z0,z1,z2,z3,z4,z5,z6]) rfl ?_;exact ⟨rfl,HB.out _ _⟩
end Go.Proofs.YtclgbdfkdbbinaaGreat
