/-
  What is proved here: words and contracts, a part of those that the statement rests on (C25).
  Conditions: none but that the arguments are values of their types.
-/
import Derived.Test.YtclgbdfkdbbinaaGreatC8
import Derived.Test.YtclgbdfkdbbinaaGreatC18
import Derived.Test.YtclgbdfkdbbinaaGreatC21
import Derived.Test.YtclgbdfkdbbinaaGreatC24
import Derived.Test.YtclgbdfkdbbinaaGreatC10
import Derived.Deep.Cut
import Derived.Deep.DeepCutAuto
set_option linter.unusedVariables false
set_option linter.unusedSimpArgs false
set_option maxRecDepth 100000
set_option maxHeartbeats 12800000
namespace Go.Proofs.YtclgbdfkdbbinaaGreat
open Go.RowKit
def inC (of:Int) (s:Sg):Bool:=decide (s.ty=1∧8≤s.me∧s.va≤of∧of-s.va≤s.me-8)
theorem inMemory_any (g:Nat) (p:Pz) (m:Pm) (of:Int) (w:World) (h:Ps9 g w p m) (o0:0≤of) (o1:of≤18446744073709551615) :
 Calls Tryz.prog 57 #[.pointer (some ⟨g,0,none⟩),.int .u64 of] w fun r w'=>r=.returned (.bool (m.m.sg.any (inC of)))∧Below w.heap.size w w':=by
 obtain ⟨R,hR⟩:∃R,m.m.sg.any (inC of)=R:=⟨_,rfl⟩
 have hgl:=h.lt;have hs:=h.seg;have q4:w.cell? ⟨g,4,none⟩=some (.slice p.x.sg.a p.x.sg.n p.x.sg.c):=h.box.cell 4;rw [hR];have HY:Hid (∀j,j<p.x.sg.n→inC of (m.m.sg.getD j sg0)=true→R=true):=Lib.hid (fun j hj hc=>by rw [←hR];exact List.any_eq_true.2 ⟨_,by rw [List.getD_eq_getElem?_getD,List.getElem?_eq_getElem (by rw [hs.1.hl];exact hj)];exact List.getElem_mem (by rw [hs.1.hl];exact hj),hc⟩);have HN:Hid ((∀j,j<p.x.sg.n→inC of (m.m.sg.getD j sg0)=false)→R=false):=Lib.hid (fun hc=>by
  rw [←hR,List.any_eq_false];intro x hx;obtain ⟨i,hi,rfl⟩:=List.getElem_of_mem hx;have:=hc i (by rw [←hs.1.hl];exact hi);rw [List.getD_eq_getElem?_getD,List.getElem?_eq_getElem hi] at this;rw [show inC of m.m.sg[i]=false from this];decide)
 have HSG:=Lib.hid hs.1;have hle:=hs.2.1;have hmx:=hs.2.2;generalize m.m.sg=L at HY HN HSG;obtain ⟨⟨k,e,s,c,⟨sga,sgn,sgc⟩,so,⟨nda,ndn,ndc⟩,⟨nma,nmn,nmc⟩,⟨sya,syn,syc⟩,⟨rla,rln,rlc⟩,⟨zsa,zsn,zsc⟩⟩,⟨fia,fin,fic⟩,⟨n0,n1,n2⟩,v0,v1,v2,v3,v4,v5,v6,⟨tba,tbn,tbc⟩⟩:=p;simp only at HY HN HSG hle hmx q4;have hni:(sgn:Int)≤9223372036854775807:=by omega
 clear h hs hR;go_enter Tryz.func57,Tryz.ntmps57
 go_wp2;go_loopw [6,13] (fun _ i wr=>∃q:Nat,q≤sgn∧i=.int .i64 q∧(∀j,j<q→inC of (L.getD j sg0)=false)∧Below w.heap.size w wr) (fun _ i _=>sgn-(intOf i).toNat)
 case atStart=>exact ⟨0,Nat.zero_le _,rfl,fun j hj=>absurd hj (by omega),Below.refl _ _⟩
 case round=>
  obtain ⟨q,hq,rfl,hno,hbel⟩:=hrel;have HB:=Lib.hid hbel;have HNO:=Lib.hid hno;have hww:=hbel.size;by_cases hlt:q<sgn
  ·obtain ⟨sb,so2,rfl,hsB,hsc⟩:=HSG.out.hc (by omega);obtain ⟨s0,s1,s2,s3,s4,s5,s6⟩:=(hsc q hlt).below hbel hsB;have hsok:=HSG.out.okAt hlt;have HYQ:=Lib.hid (HY.out q hlt);have HNX:=Lib.hid (fun h'=>upto_eq (P:=fun j=>inC of (L.getD j sg0)=false) hno h');have hqi:(q:Int)<sgn:=by omega
   generalize L.getD q sg0=sq at s0 s1 s2 s3 s4 s5 s6 hsok HYQ HNX;obtain ⟨⟨g0,g1⟩,-,-,⟨w0,w1⟩,-,⟨m0,m1⟩,-⟩:=hsok;obtain ⟨ty,fl,ot,va,fi,me,al⟩:=sq;simp only at s0 s1 s2 s3 s4 s5 s6 g0 g1 w0 w1 m0 m1;have HBN:Hid (∀o,Below w.heap.size w (wr.alloc o)):=Lib.hid (fun o=>HB.out.alloc hww o);have hsb:sb<wr.heap.size:=by omega
   clear hsc hbel hno;by_cases c1:ty=1
   ·subst c1;by_cases c2:8≤me
    ·have d2:decide (8≤me)=true:=decide_eq_true c2;by_cases c3:va≤of
     ·have d3:decide (va≤of)=true:=decide_eq_true c3;have x1:IntKind.u64.wrap (of-va)=of-va:=by rw [IntKind.wrap_u64];omega
      have x2:IntKind.u64.wrap (me-8)=me-8:=by rw [IntKind.wrap_u64];omega
      obtain ⟨di,hdi⟩:∃di,of-va=di:=⟨_,rfl⟩
      obtain ⟨mi,hmi⟩:∃mi,me-8=mi:=⟨_,rfl⟩
      rw [hdi] at x1;rw [hmi] at x2;by_cases c4:di≤mi
      ·have d4:decide (di≤mi)=true:=decide_eq_true c4;have HT:=Lib.hid (HYQ.out (by unfold inC;rw [decide_eq_true_eq];simp only;exact ⟨trivial,c2,c3,by omega⟩));clear c2 c3 c4 HYQ HNX;go_wp2;go_ret;exact ⟨by rw [HT.out];rfl,HBN.out _⟩
      ·have d4:decide (di≤mi)=false:=decide_eq_false c4;have HT:=Lib.hid (HNX.out (by unfold inC;rw [decide_eq_false_iff_not];simp only;exact fun h=>c4 (by omega)));clear c2 c3 c4 HYQ HNX;go_wp2;go_roundw
       case rel=>exact ⟨q+1,by omega,by go_num,HT.out,HBN.out _⟩
       case measure=>(simp [intOf]<;>omega)
     ·have d3:decide (va≤of)=false:=decide_eq_false c3;have HT:=Lib.hid (HNX.out (by unfold inC;rw [decide_eq_false_iff_not];simp only;exact fun h=>c3 h.2.2.1));clear c2 c3 HYQ HNX;go_wp2;go_roundw
      case rel=>exact ⟨q+1,by omega,by go_num,HT.out,HBN.out _⟩
      case measure=>(simp [intOf]<;>omega)
    ·have d2:decide (8≤me)=false:=decide_eq_false c2;have HT:=Lib.hid (HNX.out (by unfold inC;rw [decide_eq_false_iff_not];simp only;exact fun h=>c2 h.2.1));clear c2 HYQ HNX;go_wp2;go_roundw
     case rel=>exact ⟨q+1,by omega,by go_num,HT.out,HBN.out _⟩
     case measure=>(simp [intOf]<;>omega)
   ·have d1:(ty==1)=false:=by simpa using c1
    have HT:=Lib.hid (HNX.out (by unfold inC;rw [decide_eq_false_iff_not];simp only;exact fun h=>c1 h.1));clear c1 HYQ HNX;go_wp2;go_roundw
    case rel=>exact ⟨q+1,by omega,by go_num,HT.out,HBN.out _⟩
    case measure=>(simp [intOf]<;>omega)
  ·obtain rfl:q=sgn:=by omega
   have HT:=Lib.hid (HN.out hno);clear hno hbel;go_wp2;go_ret;exact ⟨by rw [HT.out];rfl,HB.out⟩
def okC (L:List Sg) (r:Rl):Bool:=decide (r.ty=0) || L.any (inC r.of)
def crI (m:Pm):Int×Pm:=(if m.m.rl.any (fun r=>!okC m.m.sg r) then 40 else 0,m)
theorem cr9_ok (g:Nat):StepOk g 23 crI:=by
 intro p m w h;have H:=Lib.hid h;have hgl:=h.lt;have hr:=h.rel;have HRL:=Lib.hid hr.1;have hle:=hr.2.1;have hmx:=hr.2.2;have q9:w.cell? ⟨g,9,none⟩=some (.slice p.x.rl.a p.x.rl.n p.x.rl.c):=h.box.cell 9;obtain ⟨Z,hZ⟩:∃Z,crI m=Z:=⟨_,rfl⟩
 have HY:Hid (∀j,j<p.x.rl.n→okC m.m.sg (m.m.rl.getD j Rl.zero)=false→Z=(40,m)):=Lib.hid (fun j hj hc=>by
  rw [←hZ];unfold crI;rw [if_pos];exact List.any_eq_true.2 ⟨_,Rl.getD_mem (by rw [hr.1.hl];exact hj),by rw [hc];rfl⟩)
 have HN:Hid ((∀j,j<p.x.rl.n→okC m.m.sg (m.m.rl.getD j Rl.zero)=true)→Z=(0,m)):=Lib.hid (fun hc=>by
  rw [←hZ];unfold crI;rw [if_neg];rw [Bool.not_eq_true,List.any_eq_false];intro x hx;obtain ⟨i,hi,rfl⟩:=List.getElem_of_mem hx;have:=hc i (by rw [←hr.1.hl];exact hi);rw [List.getD_eq_getElem?_getD,List.getElem?_eq_getElem hi] at this;rw [show okC m.m.sg m.m.rl[i]=true from this];decide)
 rw [hZ];have HIM:Hid (∀of w1,0≤of→of≤18446744073709551615→Below w.heap.size w w1→Calls Tryz.prog 57 #[.pointer (some ⟨g,0,none⟩),.int .u64 of] w1 fun r w'=>r=.returned (.bool (m.m.sg.any (inC of)))∧Below w1.heap.size w1 w'):=Lib.hid (fun of w1 a b h1=>inMemory_any g p m of w1 (H.out.later h1) a b);obtain ⟨p,hp⟩:∃q:Pz,q=p:=⟨_,rfl⟩
 obtain ⟨⟨k,e,s,c,⟨sga,sgn,sgc⟩,so,⟨nda,ndn,ndc⟩,⟨nma,nmn,nmc⟩,⟨sya,syn,syc⟩,⟨rla,rln,rlc⟩,⟨zsa,zsn,zsc⟩⟩,⟨fia,fin,fic⟩,⟨n0,n1,n2⟩,v0,v1,v2,v3,v4,v5,v6,⟨tba,tbn,tbc⟩⟩:=p;subst hp;simp only at HY HN HRL hle hmx q9;have hni:(rln:Int)≤9223372036854775807:=by omega
 clear h hr hZ;go_enter Tryz.func23,Tryz.ntmps23
 go_wp2;go_loopw [4,11] (fun _ i wr=>∃q:Nat,q≤rln∧i=.int .i64 q∧(∀j,j<q→okC m.m.sg (m.m.rl.getD j Rl.zero)=true)∧Below w.heap.size w wr) (fun _ i _=>rln-(intOf i).toNat)
 case atStart=>exact ⟨0,Nat.zero_le _,rfl,fun j hj=>absurd hj (by omega),Below.refl _ _⟩
 case round=>
  obtain ⟨q,hq,rfl,hno,hbel⟩:=hrel;have HB:=Lib.hid hbel;have hww:=hbel.size;by_cases hlt:q<rln
  ·obtain ⟨sb,so2,rfl,hsB,hsc⟩:=HRL.out.hc (by omega);obtain ⟨s0,s1,s2,s3⟩:=(hsc q hlt).below hbel hsB;have hsok:=HRL.out.okAt hlt;have HYQ:=Lib.hid (HY.out q hlt);have HNX:=Lib.hid (fun h'=>upto_eq (P:=fun j=>okC m.m.sg (m.m.rl.getD j Rl.zero)=true) hno h');have hqi:(q:Int)<rln:=by omega
   generalize m.m.rl.getD q Rl.zero=sq at s0 s1 s2 s3 hsok HYQ HNX;obtain ⟨⟨g0,g1⟩,⟨t0,t1⟩,-,-⟩:=hsok;obtain ⟨rof,rty,rsy,rad⟩:=sq;simp only at s0 s1 s2 s3 g0 g1 t0 t1;have HBN:Hid (∀o,Below w.heap.size w (wr.alloc o)):=Lib.hid (fun o=>HB.out.alloc hww o);have hsb:sb<wr.heap.size:=by omega
   have HC:=Lib.hid (fun o=>HIM.out rof (wr.alloc o) g0 g1 (HBN.out o));unfold okC at HYQ HNX;simp only at HYQ HNX;generalize m.m.sg.any (inC rof)=b at HC HYQ HNX;clear hsc hbel hno;by_cases c1:rty=0
   ·subst c1;have HT:=Lib.hid (HNX.out rfl);clear HYQ HNX HC;go_wp2;go_roundw
    case rel=>exact ⟨q+1,by omega,by go_num,HT.out,HBN.out _⟩
    case measure=>(simp [intOf]<;>omega)
   ·have d1:(rty != 0)=true:=by rw [bne_iff_ne];exact c1
    have d0:decide (rty=0)=false:=decide_eq_false c1;rw [d0,Bool.false_or] at HYQ HNX;clear c1;go_wp2_with fail;refine (HC.out _).mono ?_;rintro r w4 ⟨rfl,hb4⟩;have HB4:=Lib.hid ((HBN.out _).trans (hb4.mono (HBN.out (.cells #[.int .u64 rof,.int .u32 rty,.int .u32 rsy,.int .i64 rad] 78)).size));clear hb4;cases b with
    | true=>
      have HT:=Lib.hid (HNX.out rfl);clear HYQ HNX HC;go_wp2;go_roundw
      case rel=>exact ⟨q+1,by omega,by go_num,HT.out,HB4.out⟩
      case measure=>(simp [intOf]<;>omega)
    | false=>
      have hz:=HYQ.out rfl;subst hz;clear HYQ HNX HC;go_wp2;go_ret;exact ⟨rfl,fun e=>(by cases e),Kq.later (Nat.le_of_lt hgl) HB4.out⟩
  ·obtain rfl:q=rln:=by omega
   have hz:=HN.out hno;subst hz;clear hno hbel;go_wp2;go_ret;exact ⟨rfl,fun _=>⟨_,H.out.later HB.out⟩,Kq.later (Nat.le_of_lt hgl) HB.out⟩
def csI (m:Pm):Int×Pm:=(symsE (m.m.sg.find? (kindB 7)) m.m.sy,m)
theorem found9 (t:Option Sg):∃d0 d1 d2 d3 d4 d5 d6 th,foundV t=.agg #[.int .u32 d0,.int .u32 d1,.int .u64 d2,.int .u64 d3,.int .u64 d4,.int .u64 d5,.int .u64 d6]∧t.isSome=th∧
 ∀s,symE t s=if s.se=0 then 0 else if s.inf % 16=6 then (if th=false then 11 else if d5<s.va then 11 else 0) else if 4294967296<s.va then 13 else 0:=by
 cases t with
 | none=>exact ⟨0,0,0,0,0,0,0,false,rfl,rfl,fun s=>by unfold symE;simp⟩
 | some d=>exact ⟨d.ty,d.fl,d.ot,d.va,d.fi,d.me,d.al,true,rfl,rfl,fun s=>by unfold symE;simp⟩
theorem cs9_ok (g:Nat):StepOk g 24 csI:=by
 intro p m w h;have H:=Lib.hid h;have hgl:=h.lt;have hr:=h.sym;have HSL:=Lib.hid hr.1;have hle:=hr.2.1;have hmx:=hr.2.2;have q4:w.cell? ⟨g,4,none⟩=some (.slice p.x.sg.a p.x.sg.n p.x.sg.c):=h.box.cell 4;have HQ8:Hid (∀w1,Below w.heap.size w w1→w1.cell? ⟨g,8,none⟩=some (.slice p.x.sy.a p.x.sy.n p.x.sy.c)):=Lib.hid (fun w1 h1=>(h.box.later h1).cell 8);obtain ⟨Z,hZ⟩:∃Z,csI m=Z:=⟨_,rfl⟩
 have HY:Hid (∀j,(∀i,i<j→symE (m.m.sg.find? (kindB 7)) (m.m.sy.getD i Sy.zero)=0)→j<p.x.sy.n→∀e,symE (m.m.sg.find? (kindB 7)) (m.m.sy.getD j Sy.zero)=e→e≠0→Z=(e,m)):=Lib.hid (fun j h0 hj e he hne=>by
  rw [←hZ];unfold csI;subst he;rw [symsE_at h0 (by rw [hr.1.hl];exact hj) hne])
 have HN:Hid ((∀j,j<p.x.sy.n→symE (m.m.sg.find? (kindB 7)) (m.m.sy.getD j Sy.zero)=0)→Z=(0,m)):=Lib.hid (fun hc=>by
  rw [←hZ];unfold csI;rw [symsE_no (by rw [hr.1.hl];exact hc)])
 rw [hZ];obtain ⟨d0,d1,d2,d3,d4,d5,d6,th,hf,ht,hse⟩:=found9 (m.m.sg.find? (kindB 7));have HFD:Hid (Calls Tryz.prog 48 #[.slice p.x.sg.a p.x.sg.n p.x.sg.c,.int .u32 7] w fun r w2=>r=.returned (.tuple #[.agg #[.int .u32 d0,.int .u32 d1,.int .u64 d2,.int .u64 d3,.int .u64 d4,.int .u64 d5,.int .u64 d6],.bool th])∧Below w.heap.size w w2):=Lib.hid (by
  rw [←hf,←ht];have h4:=h.seg;exact sfind_any w.heap.size _ _ _ m.m.sg 7 w h4.1 (Nat.le_refl _) (by have h5:=h4.2.1;have h6:=h4.2.2;omega))
 generalize symE (m.m.sg.find? (kindB 7))=E at HY HN hse;have HSE:=Lib.hid hse;obtain ⟨p,hp⟩:∃q:Pz,q=p:=⟨_,rfl⟩
 obtain ⟨⟨k,e,s,c,⟨sga,sgn,sgc⟩,so,⟨nda,ndn,ndc⟩,⟨nma,nmn,nmc⟩,⟨sya,syn,syc⟩,⟨rla,rln,rlc⟩,⟨zsa,zsn,zsc⟩⟩,⟨fia,fin,fic⟩,⟨n0,n1,n2⟩,v0,v1,v2,v3,v4,v5,v6,⟨tba,tbn,tbc⟩⟩:=p;subst hp;simp only at HY HN HSL hle hmx q4 HQ8 HFD;have hni:(syn:Int)≤9223372036854775807:=by omega
 clear h hr hZ hse hf ht;obtain ⟨D,hD⟩:∃D:Array Value,D=#[.int .u32 d0,.int .u32 d1,.int .u64 d2,.int .u64 d3,.int .u64 d4,.int .u64 d5,.int .u64 d6]:=⟨_,rfl⟩
 have HDC:Hid (∀w1 b,Blk w1 b D 65→w1.cell? ⟨b,5,none⟩=some (.int .u64 d5)):=Lib.hid (fun w1 b hb=>by rw [hb.cell 5,hD];rfl);go_enter Tryz.func24,Tryz.ntmps24
 go_wp2_with fail;refine HFD.out.mono ?_;rintro r w1 ⟨rfl,hb1⟩;have HB1:Hid (Below w.heap.size w (w1.alloc (.cells #[.int .u32 d0,.int .u32 d1,.int .u64 d2,.int .u64 d3,.int .u64 d4,.int .u64 d5,.int .u64 d6] 65))):=Lib.hid (hb1.alloc hb1.size _);have HD1:Hid (Blk (w1.alloc (.cells #[.int .u32 d0,.int .u32 d1,.int .u64 d2,.int .u64 d3,.int .u64 d4,.int .u64 d5,.int .u64 d6] 65)) w1.heap.size D 65):=Lib.hid (by rw [hD];exact Blk.new _ _ _);have q8:=HQ8.out w1 hb1;have hgl1:g<w1.heap.size:=Nat.lt_of_lt_of_le hgl hb1.size;have hw1:=hb1.size;clear hb1 HFD hD;go_wp2;go_loopw [6,7,23] (fun _ _ i wr=>∃q:Nat,q≤syn∧i=.int .i64 q∧(∀j,j<q→E (m.m.sy.getD j Sy.zero)=0)∧Blk wr w1.heap.size D 65∧Below w.heap.size w wr) (fun _ _ i _=>syn-(intOf i).toNat)
 case atStart=>exact ⟨0,Nat.zero_le _,rfl,fun j hj=>absurd hj (by omega),HD1.out,HB1.out⟩
 case round=>
  obtain ⟨q,hq,rfl,hno,hblk,hbel⟩:=hrel;have HB:=Lib.hid hbel;have HK:=Lib.hid hblk;have hww:=hbel.size;have htl:=hblk.lt;by_cases hlt:q<syn
  ·obtain ⟨sb,so2,rfl,hsB,hsc⟩:=HSL.out.hc (by omega);obtain ⟨s0,s1,s2,s3,s4,s5⟩:=(hsc q hlt).below hbel hsB;have hsok:=HSL.out.okAt hlt;have HYQ:=Lib.hid (HY.out q hno hlt);have HNX:=Lib.hid (fun h'=>upto_eq (P:=fun j=>E (m.m.sy.getD j Sy.zero)=0) hno h');have HSQ:=Lib.hid (HSE.out (m.m.sy.getD q Sy.zero));have hqi:(q:Int)<syn:=by omega
   generalize m.m.sy.getD q Sy.zero=sq at s0 s1 s2 s3 s4 s5 hsok HYQ HNX HSQ;have hb0:=hsok.inf;obtain ⟨yna,yif,yot,yse,yva,ysi⟩:=sq;simp only at s0 s1 s2 s3 s4 s5 HSQ hb0;obtain ⟨b0,b1⟩:=hb0;generalize E ⟨yna,yif,yot,yse,yva,ysi⟩=er at HYQ HNX HSQ;obtain ⟨Yo,hYo⟩:∃Yo:Obj,Yo=.cells #[.int .u32 yna,.int .u8 yif,.int .u8 yot,.int .u16 yse,.int .u64 yva,.int .u64 ysi] 76:=⟨_,rfl⟩
   have HBN:Hid (Below w.heap.size w (wr.alloc Yo)∧Below w.heap.size w ((wr.alloc Yo).alloc Yo)∧Below w.heap.size w (((wr.alloc Yo).alloc Yo).alloc Yo)):=Lib.hid ⟨HB.out.alloc hww Yo,(HB.out.alloc hww Yo).alloc (by simp;omega) Yo,((HB.out.alloc hww Yo).alloc (by simp;omega) Yo).alloc (by simp;omega) Yo⟩;have HKN:Hid (Blk ((wr.alloc Yo).alloc Yo) w1.heap.size D 65∧Blk (((wr.alloc Yo).alloc Yo).alloc Yo) w1.heap.size D 65):=Lib.hid ⟨(hblk.alloc Yo).alloc Yo,((hblk.alloc Yo).alloc Yo).alloc Yo⟩;rw [hYo] at HBN HKN;have hsb:sb<wr.heap.size:=by omega
   have HDF:=Lib.hid (fun w1=>defined_eq yna yif yot yse yva ysi w1);have HKI:=Lib.hid (fun w1=>kind_eq yna yif yot yse yva ysi w1 b0 b1);clear hsc hbel hno hblk hYo;by_cases c1:yse=0
   ·subst c1;have hT:=HSQ.out;rw [if_pos rfl] at hT;have HT:=Lib.hid (HNX.out hT);clear HYQ HNX HSQ hT HKI;go_wp2_with fail;refine (HDF.out _).mono ?_;rintro r w4 ⟨rfl,rfl⟩;go_wp2;go_roundw
    case rel=>exact ⟨q+1,by omega,by go_num,HT.out,HKN.out.1,HBN.out.2.1⟩
    case measure=>(simp [intOf]<;>omega)
   ·have c1b:(yse != 0)=true:=by rw [bne_iff_ne];exact c1
    have hT:=HSQ.out;rw [if_neg c1] at hT;have HT1:=Lib.hid hT;rw [c1b] at HDF;clear HSQ hT c1 c1b;by_cases c2:yif % 16=6
    ·have hT:=HT1.out;rw [if_pos c2] at hT;have HT2:=Lib.hid hT;have c2b:(yif % 16==6)=true:=by rw [c2];rfl
     clear HT1 hT c2;cases th with
     | false=>
       have hT:=HT2.out;rw [if_pos rfl] at hT;have hz:=HYQ.out _ hT (by decide);subst hz;clear HT2 HNX HYQ hT;go_wp2_with fail;refine (HDF.out _).mono ?_;rintro r w4 ⟨rfl,rfl⟩;go_wp2_with fail;refine (HKI.out _).mono ?_;rintro r w4 ⟨rfl,rfl⟩;go_wp2;go_ret;exact ⟨rfl,fun e=>(by cases e),Kq.later (Nat.le_of_lt hgl) HBN.out.2.2⟩
     | true=>
       have hT:=HT2.out;rw [if_neg (by decide)] at hT;have HT3:=Lib.hid hT;have t5:=HDC.out _ _ HKN.out.2;clear HT2 hT;by_cases c3:d5<yva
       ·have hT:=HT3.out;rw [if_pos c3] at hT;have hz:=HYQ.out _ hT (by decide);subst hz;have c3b:decide (yva > d5)=true:=decide_eq_true c3;have c3c:decide (d5<yva)=true:=decide_eq_true c3;clear HT3 HNX HYQ hT c3;go_wp2_with fail;refine (HDF.out _).mono ?_;rintro r w4 ⟨rfl,rfl⟩;go_wp2_with fail;refine (HKI.out _).mono ?_;rintro r w4 ⟨rfl,rfl⟩;go_wp2;go_ret;exact ⟨rfl,fun e=>(by cases e),Kq.later (Nat.le_of_lt hgl) HBN.out.2.2⟩
       ·have hT:=HT3.out;rw [if_neg c3] at hT;have HT:=Lib.hid (HNX.out hT);have c3c:decide (d5<yva)=false:=decide_eq_false c3;clear HT3 HNX HYQ hT c3;go_wp2_with fail;refine (HDF.out _).mono ?_;rintro r w4 ⟨rfl,rfl⟩;go_wp2_with fail;refine (HKI.out _).mono ?_;rintro r w4 ⟨rfl,rfl⟩;go_wp2;go_roundw
        case rel=>exact ⟨q+1,by omega,by go_num,HT.out,HKN.out.2,HBN.out.2.2⟩
        case measure=>(simp [intOf]<;>omega)
    ·have hT:=HT1.out;rw [if_neg c2] at hT;have HT2:=Lib.hid hT;have c2b:(yif % 16==6)=false:=by simpa using c2
     clear HT1 hT c2;by_cases c3:4294967296<yva
     ·have hT:=HT2.out;rw [if_pos c3] at hT;have hz:=HYQ.out _ hT (by decide);subst hz;have c3c:decide (4294967296<yva)=true:=decide_eq_true c3;clear HT2 HNX HYQ hT c3;go_wp2_with fail;refine (HDF.out _).mono ?_;rintro r w4 ⟨rfl,rfl⟩;go_wp2_with fail;refine (HKI.out _).mono ?_;rintro r w4 ⟨rfl,rfl⟩;go_wp2;go_ret;exact ⟨rfl,fun e=>(by cases e),Kq.later (Nat.le_of_lt hgl) HBN.out.2.2⟩
     ·have hT:=HT2.out;rw [if_neg c3] at hT;have HT:=Lib.hid (HNX.out hT);have c3c:decide (4294967296<yva)=false:=decide_eq_false c3;clear HT2 HNX HYQ hT c3;go_wp2_with fail;refine (HDF.out _).mono ?_;rintro r w4 ⟨rfl,rfl⟩;go_wp2_with fail;refine (HKI.out _).mono ?_;rintro r w4 ⟨rfl,rfl⟩;go_wp2;go_roundw
      case rel=>exact ⟨q+1,by omega,by go_num,HT.out,HKN.out.2,HBN.out.2.2⟩
      case measure=>(simp [intOf]<;>omega)
  ·obtain rfl:q=syn:=by omega
   have hz:=HN.out hno;subst hz;clear hno hbel hblk;go_wp2;go_ret;exact ⟨rfl,fun _=>⟨_,H.out.later HB.out⟩,Kq.later (Nat.le_of_lt hgl) HB.out⟩
def allL:List (Pm→Int×Pm):=[takeI,headI,segsI,dynI,crI,csI]
def allP (q:Nat) (m:Pm):Prop:=if q≤3 then m.m.nd=[]∧m.m.nm=[] else True
theorem allP_next (q:Nat) (m:Pm) (hq:q<6) (h:allP q m) (h0:((allL.getD q fun m=>(0,m)) m).1=0):allP (q+1) ((allL.getD q fun m=>(0,m)) m).2:=by
 have hq:q=0∨q=1∨q=2∨q=3∨q=4∨q=5:=by omega
 rcases hq with rfl | rfl | rfl | rfl | rfl | rfl
 ·show allP 1 (takeI m).2;unfold takeI;split<;>exact h
 ·show allP 2 (headI m).2;unfold headI;repeat' split
  all_goals exact h
 ·show allP 3 (segsI m).2;unfold segsI;repeat' split
  all_goals exact h
 ·exact trivial
 ·exact trivial
 ·exact trivial
theorem all_ok (g:Nat) (q:Nat) (hq:q<6):StepAt g ([19,20,21,22,23,24].getD q 0) (allP q) (allL.getD q fun m=>(0,m)):=by
 have hq:q=0∨q=1∨q=2∨q=3∨q=4∨q=5:=by omega
 rcases hq with rfl | rfl | rfl | rfl | rfl | rfl
 ·exact (take9_ok g).at' _
 ·exact (head9_ok g).at' _
 ·exact (segs9_ok g).at' _
 ·exact fun p m w h=>dyn9_ok g p m w h
 ·exact (cr9_ok g).at' _
 ·exact (cs9_ok g).at' _
theorem all_run (g:Nat) (W:World) (hh:Nat) (h0:W.heap.size=hh) (p:Pz) (m:Pm) (h1:Ps9 g W p m) (hm:m.m.nd=[]∧m.m.nm=[]) :
 Calls Tryz.prog 18 #[.slice (some ⟨hh,0,none⟩) 6 6] (W.alloc (.cells #[.func (.func 19) #[.pointer (some ⟨g,0,none⟩)] #[],.func (.func 20) #[.pointer (some ⟨g,0,none⟩)] #[],.func (.func 21) #[.pointer (some ⟨g,0,none⟩)] #[],.func (.func 22) #[.pointer (some ⟨g,0,none⟩)] #[],.func (.func 23) #[.pointer (some ⟨g,0,none⟩)] #[],.func (.func 24) #[.pointer (some ⟨g,0,none⟩)] #[]] 74)) fun r w'=>r=.returned (.int .i64 (runI allL m).1)∧((runI allL m).1=0→∃p,Ps9 g w' p (runI allL m).2)∧Kq g W w':=by
 subst h0;have h3:=h1.lt;have h4:=inOrder_any g W.heap.size 6 [19,20,21,22,23,24] allL #[.func (.func 19) #[.pointer (some ⟨g,0,none⟩)] #[],.func (.func 20) #[.pointer (some ⟨g,0,none⟩)] #[],.func (.func 21) #[.pointer (some ⟨g,0,none⟩)] #[],.func (.func 22) #[.pointer (some ⟨g,0,none⟩)] #[],.func (.func 23) #[.pointer (some ⟨g,0,none⟩)] #[],.func (.func 24) #[.pointer (some ⟨g,0,none⟩)] #[]] 74 p m _ (h1.alloc (.cells #[.func (.func 19) #[.pointer (some ⟨g,0,none⟩)] #[],.func (.func 20) #[.pointer (some ⟨g,0,none⟩)] #[],.func (.func 21) #[.pointer (some ⟨g,0,none⟩)] #[],.func (.func 22) #[.pointer (some ⟨g,0,none⟩)] #[],.func (.func 23) #[.pointer (some ⟨g,0,none⟩)] #[],.func (.func 24) #[.pointer (some ⟨g,0,none⟩)] #[]] 74)) (Blk.new W _ _) (by omega) rfl (by omega)
  (fun q hq=>by
   have hq:q=0∨q=1∨q=2∨q=3∨q=4∨q=5:=by omega
   rcases hq with rfl | rfl | rfl | rfl | rfl | rfl<;>rfl)
  (fun q hq=>by
   have hq:q=0∨q=1∨q=2∨q=3∨q=4∨q=5:=by omega
   rcases hq with rfl | rfl | rfl | rfl | rfl | rfl<;>decide)
  allP hm allP_next (all_ok g)
 exact h4.mono fun r w' h=>⟨h.1,h.2.1,((Kq.refl g W).alloc (Nat.le_of_lt h3) _).trans h.2.2⟩
theorem Prow.is {w:World} {b:Nat} {p:Pz} {m:Pm} (h:Prow w b p m):p.x.Is w w.heap.size m.m:=by
 have o0:=h.sg;have o1:=h.nd;have o2:=h.nm;have o3:=h.sy;have o4:=h.rl;have o5:=h.zs;obtain ⟨n0,l0,c0⟩:=own_n o0;obtain ⟨n1,l1,c1⟩:=own_n o1;obtain ⟨n2,l2,c2⟩:=own_n o2;obtain ⟨n3,l3,c3⟩:=own_n o3;obtain ⟨n4,l4,c4⟩:=own_n o4;obtain ⟨n5,l5,c5⟩:=own_n o5;rw [←n0] at o0;rw [←n1] at o1;rw [←n2] at o2;rw [←n3] at o3;rw [←n4] at o4;rw [←n5] at o5;exact ⟨h.k,h.e,h.s,h.c,h.so,Sgs.own h.oks o0,Strs.own o1,Strs.own o2,Sy.Sl.own h.oky o3,Rl.Sl.own h.okr o4,Bys.own h.okz o5,⟨l0,c0⟩,⟨l1,c1⟩,⟨l2,c2⟩,⟨l3,c3⟩,⟨l4,c4⟩,⟨l5,c5⟩⟩
theorem u64_0:u64B 0:=⟨by decide,by decide⟩
theorem prow0 (w:World) (b:Nat) (a:Option Addr) (len cap:Nat) (zs:List Int):Prow w b ⟨iv0,⟨a,len,cap⟩,Sh.zero,0,0,0,0,0,0,0,Sh.zero⟩ (pm0 zs):=
 ⟨rfl,rfl,rfl,rfl,rfl,World.ownsRow_nil _ _ _ _,World.ownsRow_nil _ _ _ _,World.ownsRow_nil _ _ _ _,World.ownsRow_nil _ _ _ _,World.ownsRow_nil _ _ _ _,World.ownsRow_nil _ _ _ _,World.ownsRow_nil _ _ _ _,World.ownsRow_nil _ _ _ _,
  fun _ h=>(by cases h),fun _ h=>(by cases h),fun _ h=>(by cases h),fun _ h=>(by cases h),fun _ h=>(by cases h),fun _ h=>(by cases h),Nat.zero_le _,Nat.zero_le _,Nat.zero_le _,u64_0,
  ⟨rfl,u64_0⟩,⟨rfl,u64_0⟩,⟨rfl,u64_0⟩,⟨rfl,u64_0⟩,⟨rfl,u64_0⟩,⟨rfl,u64_0⟩,⟨rfl,u64_0⟩,fun _=>rfl,fun _=>rfl⟩
def ParseOwn (Z:Int×Im) (w:World) (e:Ending) (w':World):Prop:=
 (∃x:Iv,e=.returned (.tuple #[x.val,.int .i64 Z.1])∧x.Is w' w'.heap.size Z.2∧w'.ownsRow w.heap.size 5 1 (.slice x.zs.a x.zs.n x.zs.c) Z.2.zs.length (Z.2.zs.map (Value.int .u8))∧(Z.1≠0→x=iv0))∧Below w.heap.size w w'
theorem fr22 (y:Nat→Value):frameOf 22 y=#[y 0,y 1,y 2,y 3,y 4,y 5,y 6,y 7,y 8,y 9,y 10,y 11,y 12,y 13,y 14,y 15,y 16,y 17,y 18,y 19,y 20,y 21]:=rfl
theorem prs_ok (y:Nat→Value) (w w5:World) (zm:Pm) (h2:y 2=.pointer (some ⟨w.heap.size,0,none⟩)) (h4:y 4=.pointer (some ⟨w.heap.size+1,0,none⟩)) (h5:y 5=.int .i64 0)
 (hres:Blk w5 w.heap.size #[.int .i64 0,.int .u64 0,.int .u64 0,.int .i64 0,.slice none 0 0,.string ⟨#[]⟩,.slice none 0 0,.slice none 0 0,.slice none 0 0,.slice none 0 0,.slice none 0 0] 32) (hbw:Below w.heap.size w w5) (p:Pz) (hp:Ps9 (w.heap.size+1) w5 p zm) :
 Code.wp Tryz.prog (restAt 3 (Tryz.f10.body.getD .skip)) (bodyPost Tryz.prog Tryz.f10 (ParseOwn (0,zm.m) w)) ⟨frameOf 22 y,[]⟩ w5:=by
 rw [fr22,h2,h4,h5];clear h2 h4 h5;conv=>arg 2;whnf
 have hlt:=hres.lt;obtain ⟨q0,q1,q2,q3,q4,q5,q6,q7,q8,q9,q10⟩:=Iv.cs hres;obtain ⟨f0,f1,f2,f3,f4,f5,f6,f7,f8,f9,f10⟩:=Iv.fs hres;have HP:=Lib.hid hp;have hbx:=hp.box;obtain ⟨⟨k,e,s,c,⟨sga,sgn,sgc⟩,so,⟨nda,ndn,ndc⟩,⟨nma,nmn,nmc⟩,⟨sya,syn,syc⟩,⟨rla,rln,rlc⟩,⟨zsa,zsn,zsc⟩⟩,⟨fia,fin,fic⟩,⟨n0,n1,n2⟩,v0,v1,v2,v3,v4,v5,v6,⟨tba,tbn,tbc⟩⟩:=p;obtain ⟨p0,p1,p2,p3,p4,p5,p6,p7,p8,p9,p10⟩:w5.cell? ⟨w.heap.size+1,0,none⟩=some (.int .i64 k)∧w5.cell? ⟨w.heap.size+1,1,none⟩=some (.int .u64 e)∧w5.cell? ⟨w.heap.size+1,2,none⟩=some (.int .u64 s)∧w5.cell? ⟨w.heap.size+1,3,none⟩=some (.int .i64 c)∧w5.cell? ⟨w.heap.size+1,4,none⟩=some (.slice sga sgn sgc)∧w5.cell? ⟨w.heap.size+1,5,none⟩=some (.string so)∧w5.cell? ⟨w.heap.size+1,6,none⟩=some (.slice nda ndn ndc)∧w5.cell? ⟨w.heap.size+1,7,none⟩=some (.slice nma nmn nmc)∧w5.cell? ⟨w.heap.size+1,8,none⟩=some (.slice sya syn syc)∧w5.cell? ⟨w.heap.size+1,9,none⟩=some (.slice rla rln rlc)∧w5.cell? ⟨w.heap.size+1,10,none⟩=some (.slice zsa zsn zsc):=⟨hbx.cell 0,hbx.cell 1,hbx.cell 2,hbx.cell 3,hbx.cell 4,hbx.cell 5,hbx.cell 6,hbx.cell 7,hbx.cell 8,hbx.cell 9,hbx.cell 10⟩
 have hgl:=hbx.lt;have h11:=hres.eleven (.int .i64 k) (.int .u64 e) (.int .u64 s) (.int .i64 c) (.slice sga sgn sgc) (.string so) (.slice nda ndn ndc) (.slice nma nmn nmc) (.slice sya syn syc) (.slice rla rln rlc) (.slice zsa zsn zsc);obtain ⟨z0,z1,z2,z3,z4,z5,z6,z7,z8,z9,z10⟩:=Iv.cs h11;have HKP:=Lib.hid (Kp.eleven w5 w.heap.size (.int .i64 k) (.int .u64 e) (.int .u64 s) (.int .i64 c) (.slice sga sgn sgc) (.string so) (.slice nda ndn ndc) (.slice nma nmn nmc) (.slice sya syn syc) (.slice rla rln rlc) (.slice zsa zsn zsc));have HBF:=Lib.hid (below_eleven hbw (Nat.le_refl _) (.int .i64 k) (.int .u64 e) (.int .u64 s) (.int .i64 c) (.slice sga sgn sgc) (.string so) (.slice nda ndn ndc) (.slice nma nmn nmc) (.slice sya syn syc) (.slice rla rln rlc) (.slice zsa zsn zsc));clear hres hbw hp hbx h11;go_wp2;refine bodyPost_ret (v:=.tuple #[.agg #[.int .i64 k,.int .u64 e,.int .u64 s,.int .i64 c,.slice sga sgn sgc,.string so,.slice nda ndn ndc,.slice nma nmn nmc,.slice sya syn syc,.slice rla rln rlc,.slice zsa zsn zsc],.int .i64 0]) (by simp [results,Tryz.results10,go_sem,z0,z1,z2,z3,z4,z5,z6,z7,z8,z9,z10]) rfl ?_;have hr:=HP.out.row.kp HKP.out (by omega);exact ⟨⟨_,rfl,hr.is,own_base9 hr.zs (by omega),fun e=>absurd rfl e⟩,HBF.out⟩
theorem prs_err (y:Nat→Value) (w w5:World) (ze:Int) (hz:ze≠0) (h2:y 2=.pointer (some ⟨w.heap.size,0,none⟩)) (h4:y 4=.pointer (some ⟨w.heap.size+1,0,none⟩)) (h5:y 5=.int .i64 ze)
 (hres:Blk w5 w.heap.size #[.int .i64 0,.int .u64 0,.int .u64 0,.int .i64 0,.slice none 0 0,.string ⟨#[]⟩,.slice none 0 0,.slice none 0 0,.slice none 0 0,.slice none 0 0,.slice none 0 0] 32) (hbw:Below w.heap.size w w5) :
 Code.wp Tryz.prog (restAt 3 (Tryz.f10.body.getD .skip)) (bodyPost Tryz.prog Tryz.f10 (ParseOwn (ze,im0) w)) ⟨frameOf 22 y,[]⟩ w5:=by
 rw [fr22,h2,h4,h5];clear h2 h4 h5;conv=>arg 2;whnf
 have hlt:=hres.lt;obtain ⟨q0,q1,q2,q3,q4,q5,q6,q7,q8,q9,q10⟩:=Iv.cs hres;obtain ⟨f0,f1,f2,f3,f4,f5,f6,f7,f8,f9,f10⟩:=Iv.fs hres;have hzb:(ze != 0)=true:=by rw [bne_iff_ne];exact hz
 obtain ⟨z0,z1,z2,z3,z4,z5,z6,z7,z8,z9,z10⟩:=Iv.cs (hres.eleven (.int .i64 0) (.int .u64 0) (.int .u64 0) (.int .i64 0) (.slice none 0 0) (.string ⟨#[]⟩) (.slice none 0 0) (.slice none 0 0) (.slice none 0 0) (.slice none 0 0) (.slice none 0 0));have HBF:=Lib.hid (below_eleven hbw (Nat.le_refl _) (.int .i64 0) (.int .u64 0) (.int .u64 0) (.int .i64 0) (.slice none 0 0) (.string ⟨#[]⟩) (.slice none 0 0) (.slice none 0 0) (.slice none 0 0) (.slice none 0 0) (.slice none 0 0));clear hres hbw;go_wp2;refine bodyPost_ret (v:=.tuple #[.agg #[.int .i64 0,.int .u64 0,.int .u64 0,.int .i64 0,.slice none 0 0,.string ⟨#[]⟩,.slice none 0 0,.slice none 0 0,.slice none 0 0,.slice none 0 0,.slice none 0 0],.int .i64 ze]) (by simp [results,Tryz.results10,go_sem,z0,z1,z2,z3,z4,z5,z6,z7,z8,z9,z10]) rfl ?_;exact ⟨⟨iv0,rfl,iv0_is _ _,World.ownsRow_nil _ _ _ _,fun _=>rfl⟩,HBF.out⟩
theorem prs_3x (x:List Value) (hx:x.length=22) (w w5:World) (ze:Int) (zm:Pm) (h2:x.getD 2 undef=.pointer (some ⟨w.heap.size,0,none⟩)) (h4:x.getD 4 undef=.pointer (some ⟨w.heap.size+1,0,none⟩)) (h5:x.getD 5 undef=.int .i64 ze)
 (hres:Blk w5 w.heap.size #[.int .i64 0,.int .u64 0,.int .u64 0,.int .i64 0,.slice none 0 0,.string ⟨#[]⟩,.slice none 0 0,.slice none 0 0,.slice none 0 0,.slice none 0 0,.slice none 0 0] 32) (hbw:Below w.heap.size w w5) (hst:ze=0→∃p,Ps9 (w.heap.size+1) w5 p zm) :
 Code.wp Tryz.prog (restAt 3 (Tryz.f10.body.getD .skip)) (bodyPost Tryz.prog Tryz.f10 (ParseOwn (ze,if ze=0 then zm.m else im0) w)) ⟨x.toArray,[]⟩ w5:=by
 rw [frameOf_list x,hx];by_cases hz:ze=0
 ·subst hz;obtain ⟨p,hp⟩:=hst rfl;rw [if_pos rfl];exact prs_ok (fun t=>x.getD t undef) w w5 zm h2 h4 h5 hres hbw p hp
 ·rw [if_neg hz];exact prs_err (fun t=>x.getD t undef) w w5 ze hz h2 h4 h5 hres hbw
theorem iparse0_any (B:Nat) (a:Option Addr) (len cap:Nat) (zs:List Int) (w:World) (hb:Bys w B a len zs) (hB:B≤w.heap.size) (hcap:len≤cap) (hcm:(cap:Int)≤9223372036854775807) (hnil:a=none→cap=0) :
 Calls Tryz.prog 10 #[.slice a len cap] w (ParseOwn ((runI allL (pm0 zs)).1,if (runI allL (pm0 zs)).1=0 then (runI allL (pm0 zs)).2.m else im0) w):=by
 have HST0:Hid (Ps9 (w.heap.size+1) ((w.alloc (.cells #[.int .i64 0,.int .u64 0,.int .u64 0,.int .i64 0,.slice none 0 0,.string ⟨#[]⟩,.slice none 0 0,.slice none 0 0,.slice none 0 0,.slice none 0 0,.slice none 0 0] 32)).alloc (.cells #[.int .i64 0,.int .u64 0,.int .u64 0,.int .i64 0,.slice none 0 0,.string ⟨#[]⟩,.slice none 0 0,.slice none 0 0,.slice none 0 0,.slice none 0 0,.slice none 0 0,.slice a len cap,.slice none 0 0,.int .u64 0,.int .u64 0,.int .u64 0,.int .u64 0,.int .u64 0,.int .u64 0,.int .u64 0,.slice none 0 0] 72)) ⟨iv0,⟨a,len,cap⟩,Sh.zero,0,0,0,0,0,0,0,Sh.zero⟩ (pm0 zs)):=Lib.hid (by
  have hbl:Below w.heap.size w ((w.alloc (.cells #[.int .i64 0,.int .u64 0,.int .u64 0,.int .i64 0,.slice none 0 0,.string ⟨#[]⟩,.slice none 0 0,.slice none 0 0,.slice none 0 0,.slice none 0 0,.slice none 0 0] 32)).alloc (.cells #[.int .i64 0,.int .u64 0,.int .u64 0,.int .i64 0,.slice none 0 0,.string ⟨#[]⟩,.slice none 0 0,.slice none 0 0,.slice none 0 0,.slice none 0 0,.slice none 0 0,.slice a len cap,.slice none 0 0,.int .u64 0,.int .u64 0,.int .u64 0,.int .u64 0,.int .u64 0,.int .u64 0,.int .u64 0,.slice none 0 0] 72)):=((Below.refl _ _).alloc (Nat.le_refl _) _).alloc (by simp) _;refine ⟨?_,prow0 _ _ _ _ _ _,(hb.below (hbl.mono hB)).more (by omega),⟨hcap,hcm⟩,hnil⟩;have:=Blk.new (w.alloc (.cells #[.int .i64 0,.int .u64 0,.int .u64 0,.int .i64 0,.slice none 0 0,.string ⟨#[]⟩,.slice none 0 0,.slice none 0 0,.slice none 0 0,.slice none 0 0,.slice none 0 0] 32)) #[.int .i64 0,.int .u64 0,.int .u64 0,.int .i64 0,.slice none 0 0,.string ⟨#[]⟩,.slice none 0 0,.slice none 0 0,.slice none 0 0,.slice none 0 0,.slice none 0 0,.slice a len cap,.slice none 0 0,.int .u64 0,.int .u64 0,.int .u64 0,.int .u64 0,.int .u64 0,.int .u64 0,.int .u64 0,.slice none 0 0] 72;rw [World.size_alloc] at this;exact this)
 have HRUN:=Lib.hid (all_run (w.heap.size+1) _ (w.heap.size+1+1) (by simp) _ _ HST0.out ⟨rfl,rfl⟩);have HR0:Hid (Blk ((w.alloc (.cells #[.int .i64 0,.int .u64 0,.int .u64 0,.int .i64 0,.slice none 0 0,.string ⟨#[]⟩,.slice none 0 0,.slice none 0 0,.slice none 0 0,.slice none 0 0,.slice none 0 0] 32)).alloc (.cells #[.int .i64 0,.int .u64 0,.int .u64 0,.int .i64 0,.slice none 0 0,.string ⟨#[]⟩,.slice none 0 0,.slice none 0 0,.slice none 0 0,.slice none 0 0,.slice none 0 0,.slice a len cap,.slice none 0 0,.int .u64 0,.int .u64 0,.int .u64 0,.int .u64 0,.int .u64 0,.int .u64 0,.int .u64 0,.slice none 0 0] 72)) w.heap.size #[.int .i64 0,.int .u64 0,.int .u64 0,.int .i64 0,.slice none 0 0,.string ⟨#[]⟩,.slice none 0 0,.slice none 0 0,.slice none 0 0,.slice none 0 0,.slice none 0 0] 32):=Lib.hid ((Blk.new w _ _).alloc _);have HB0:Hid (Below w.heap.size w ((w.alloc (.cells #[.int .i64 0,.int .u64 0,.int .u64 0,.int .i64 0,.slice none 0 0,.string ⟨#[]⟩,.slice none 0 0,.slice none 0 0,.slice none 0 0,.slice none 0 0,.slice none 0 0] 32)).alloc (.cells #[.int .i64 0,.int .u64 0,.int .u64 0,.int .i64 0,.slice none 0 0,.string ⟨#[]⟩,.slice none 0 0,.slice none 0 0,.slice none 0 0,.slice none 0 0,.slice none 0 0,.slice a len cap,.slice none 0 0,.int .u64 0,.int .u64 0,.int .u64 0,.int .u64 0,.int .u64 0,.int .u64 0,.int .u64 0,.slice none 0 0] 72))):=Lib.hid (((Below.refl _ _).alloc (Nat.le_refl _) _).alloc (by simp) _);generalize runI allL (pm0 zs)=Z at HRUN;obtain ⟨ze,zm⟩:=Z;simp only at HRUN⊢;obtain ⟨zi,hzi⟩:∃zi,(if ze=0 then zm.m else im0)=zi:=⟨_,rfl⟩
 rw [hzi];have HZI:=Lib.hid hzi;clear hb hnil hzi;go_enter Tryz.func10,Tryz.ntmps10
 go_upto_region 2 with (refine wpList_new 72 _ #[.int .i64 0,.int .u64 0,.int .u64 0,.int .i64 0,.slice none 0 0,.string ⟨#[]⟩,.slice none 0 0,.slice none 0 0,.slice none 0 0,.slice none 0 0,.slice none 0 0,.slice a len cap,.slice none 0 0,.int .u64 0,.int .u64 0,.int .u64 0,.int .u64 0,.int .u64 0,.int .u64 0,.int .u64 0,.slice none 0 0] #[.int .i64 0,.int .u64 0,.int .u64 0,.int .i64 0,.slice none 0 0,.string ⟨#[]⟩,.slice none 0 0,.slice none 0 0,.slice none 0 0,.slice none 0 0,.slice none 0 0,.slice none 0 0,.slice none 0 0,.int .u64 0,.int .u64 0,.int .u64 0,.int .u64 0,.int .u64 0,.int .u64 0,.int .u64 0,.slice none 0 0] _ _ rfl rfl rfl rfl rfl rfl (by kernel_rfl) (by kernel_rfl) (by kernel_rfl) rfl (by kernel_rfl) rfl rfl ?_;go_simp)
 go_cut [5] (fun v wx=>v=.int .i64 ze∧(ze=0→∃p,Ps9 (w.heap.size+1) wx p zm)∧Blk wx w.heap.size #[.int .i64 0,.int .u64 0,.int .u64 0,.int .i64 0,.slice none 0 0,.string ⟨#[]⟩,.slice none 0 0,.slice none 0 0,.slice none 0 0,.slice none 0 0,.slice none 0 0] 32∧Below w.heap.size w wx)
 case first=>
  go_wp2_with fail;refine HRUN.out.mono ?_;rintro r w5 ⟨rfl,hst,hkq⟩;have HRES:=Lib.hid (HR0.out.below hkq.bel (Nat.lt_succ_self _));have HBW:Hid (Below w.heap.size w w5):=Lib.hid (HB0.out.trans (hkq.bel.mono (Nat.le_succ _)));have HST:=Lib.hid hst;clear hst hkq HRUN HST0 HR0 HB0;go_wp2;go_meet
  case rel=>exact ⟨rfl,HST.out,HRES.out,HBW.out⟩
 case rest=>
  obtain ⟨rfl,hst,hres,hbw⟩:=hcut;rename_i KK hKK;refine hKK _ _ ?_;rw [←HZI.out];exact prs_3x _ rfl w _ ze zm rfl rfl rfl hres hbw hst
end Go.Proofs.YtclgbdfkdbbinaaGreat
