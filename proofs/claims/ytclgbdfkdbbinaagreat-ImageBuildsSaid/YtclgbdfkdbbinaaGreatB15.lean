/-
  What is proved here: words and contracts, a part of those that the statement rests on (B15).
  Conditions: none but that the arguments are values of their types.
-/
import Derived.Test.YtclgbdfkdbbinaaGreatB0
import Derived.Test.YtclgbdfkdbbinaaGreatB13
import Derived.Test.YtclgbdfkdbbinaaGreatB14
import Derived.Test.YtclgbdfkdbbinaaGreatB6
set_option linter.unusedVariables false
set_option linter.unusedSimpArgs false
set_option maxRecDepth 100000
set_option maxHeartbeats 12800000
namespace Go.Proofs.YtclgbdfkdbbinaaGreat
open Go.RowKit
theorem c8 {w:World} {g:Nat} {v0 v1 v2 v3 v4 v5 v6 v7:Value} {t:TypeId} (h:Blk w g #[v0,v1,v2,v3,v4,v5,v6,v7] t) :
 w.cell? ⟨g,0,none⟩=some v0∧w.cell? ⟨g,1,none⟩=some v1∧w.cell? ⟨g,2,none⟩=some v2∧w.cell? ⟨g,3,none⟩=some v3∧w.cell? ⟨g,4,none⟩=some v4∧w.cell? ⟨g,5,none⟩=some v5∧w.cell? ⟨g,6,none⟩=some v6∧w.cell? ⟨g,7,none⟩=some v7:=
 ⟨h.cell 0,h.cell 1,h.cell 2,h.cell 3,h.cell 4,h.cell 5,h.cell 6,h.cell 7⟩
theorem f8 {w:World} {g:Nat} {v0 v1 v2 v3 v4 v5 v6 v7:Value} {t:TypeId} (h:Blk w g #[v0,v1,v2,v3,v4,v5,v6,v7] t) :
 w.frozen? ⟨g,0,none⟩=false∧w.frozen? ⟨g,1,none⟩=false∧w.frozen? ⟨g,2,none⟩=false∧w.frozen? ⟨g,3,none⟩=false∧w.frozen? ⟨g,4,none⟩=false∧w.frozen? ⟨g,5,none⟩=false∧w.frozen? ⟨g,6,none⟩=false∧w.frozen? ⟨g,7,none⟩=false:=
 ⟨h.frozen 0,h.frozen 1,h.frozen 2,h.frozen 3,h.frozen 4,h.frozen 5,h.frozen 6,h.frozen 7⟩
theorem cl {n:Nat} {N V:List Int} {base:Nat} {v:Value} {w:World} {k:Nat} {t x:Int} (hs:aj V (k+1)=aj V k++[(t,x)])
 (h:w.ownsRow base 5 1 v (16*(n+(aj V k).length)+16) ((cu (cI N++aj V k)++iD (t,x)).map (Value.int .u8))) :
 w.ownsRow base 5 1 v (16*(n+(aj V (k+1)).length)) ((cu (cI N++aj V (k+1))).map (Value.int .u8)):=by
 rw [hs,←List.append_assoc,bW,lZa];have e:16*(n+((aj V k).length+[(t,x)].length))=16*(n+(aj V k).length)+16:=by simp;omega
 rw [e];exact h
theorem dm {n:Nat} {N V:List Int} {base:Nat} {v:Value} {w:World} {k:Nat} (hs:aj V (k+1)=aj V k)
 (h:w.ownsRow base 5 1 v (16*(n+(aj V k).length)) ((cu (cI N++aj V k)).map (Value.int .u8))) :
 w.ownsRow base 5 1 v (16*(n+(aj V (k+1)).length)) ((cu (cI N++aj V (k+1))).map (Value.int .u8)):=by
 rw [hs];exact h
theorem lX (B:Nat) (a:Option Addr) (n c:Nat) (N V:List Int) (w:World) (h1:Nus w B a n N) (hV:∀x∈V,0≤x∧x≤18446744073709551615) (hl:V.length=7) (hB:B≤w.heap.size) (hn:n≤1000) :
 Calls Tryz.prog 68 #[lR a n c V] w fun r w'=>(∃u,r=.returned u∧w'.ownsRow w.heap.size 5 1 u (bf N V).length ((bf N V).map (Value.int .u8)))∧Below w.heap.size w w':=by
 have hni:(n:Int)≤1000:=by omega
 obtain ⟨x0,x1,x2,x3,x4,x5,x6,rfl⟩:=qu hl;have b0:0≤x0∧x0≤18446744073709551615:=hV _ (by simp);have b1:0≤x1∧x1≤18446744073709551615:=hV _ (by simp);have b2:0≤x2∧x2≤18446744073709551615:=hV _ (by simp);have b3:0≤x3∧x3≤18446744073709551615:=hV _ (by simp);have b4:0≤x4∧x4≤18446744073709551615:=hV _ (by simp);have b5:0≤x5∧x5≤18446744073709551615:=hV _ (by simp);have b6:0≤x6∧x6≤18446744073709551615:=hV _ (by simp);unfold lR;simp only [List.getD_cons_zero,List.getD_cons_succ];clear hV hl;generalize hV:([x0,x1,x2,x3,x4,x5,x6]:List Int)=V;have HK0:Hid (aj V 1=aj V 0++(if x0=0 then [] else [(14,x0)])):=hZz (by
  subst hV;rw [aP];by_cases h:x0=0<;>simp [cL,h,bo])
 have HK1:Hid (aj V 2=aj V 1++[(5,x1)]):=hZz (by subst hV;rw [aP];simp [cL,bo]);have HK2:Hid (aj V 3=aj V 2++[(10,x2)]):=hZz (by subst hV;rw [aP];simp [cL,bo]);have HK3:Hid (aj V 4=aj V 3++(if x4=0 then [] else [(6,x3)])):=hZz (by
  subst hV;rw [aP];by_cases h:x4=0<;>simp [cL,h,bo])
 have HK4:Hid (aj V 5=aj V 4++(if x4=0 then [] else [(1610612749,x4)])):=hZz (by
  subst hV;rw [aP];by_cases h:x4=0<;>simp [cL,h,bo])
 have HK5:Hid (aj V 6=aj V 5++(if x6=0 then [] else [(7,x5)])):=hZz (by
  subst hV;rw [aP];by_cases h:x6=0<;>simp [cL,h,bo])
 have HK6:Hid (aj V 7=aj V 6++(if x6=0 then [] else [(8,x6)])):=hZz (by
  subst hV;rw [aP];by_cases h:x6=0<;>simp [cL,h,bo])
 have HPE:Hid (cu (cI N++aj V 7)++iD (0,0)=bf N V∧16*(n+(aj V 7).length)+16=(bf N V).length):=hZz (by
  refine ⟨(kZ N V).symm,?_⟩;rw [mg,h1.hl])
 have HL:Hid (∀k,(aj V k).length≤k):=hZz (nP V);clear hV;obtain ⟨C,hC⟩:∃C:Array Value,C=#[.slice a n c,.int .u64 x0,.int .u64 x1,.int .u64 x2,.int .u64 x3,.int .u64 x4,.int .u64 x5,.int .u64 x6]:=⟨_,rfl⟩
 have HBW:Hid (Below w.heap.size w (w.alloc (.cells C 70))):=hZz ((Below.refl _ _).alloc (lZr _) _);have HQ:Hid (∀w',Below (w.heap.size+1) (w.alloc (.cells C 70)) w'→Blk w' w.heap.size #[.slice a n c,.int .u64 x0,.int .u64 x1,.int .u64 x2,.int .u64 x3,.int .u64 x4,.int .u64 x5,.int .u64 x6] 70∧w.heap.size+1≤w'.heap.size):=hZz (fun w' hb=>
  ⟨hC▸(Blk.new w _ _).below hb (Nat.lt_succ_self _),by have:=hb.size;simp at this;omega⟩)
 have H1:Hid (∀w',Below (w.heap.size+1) (w.alloc (.cells C 70)) w'→Nus w' B a n N):=hZz (fun w' h=>(h1.below (HBW.out.mono hB)).below (h.mono oZm));have HNL:=hZz h1.hl;have HNA:=hZz (fun i hi=>h1.at (i:=i) hi);have HFIN:Hid (∀w' v,Below (w.heap.size+1) (w.alloc (.cells C 70)) w'→w'.ownsRow (w.heap.size+1) 5 1 v (16*(n+(aj V 7).length)+16) ((cu (cI N++aj V 7)++iD (0,0)).map (Value.int .u8))→(∃u,(Ending.returned v)=.returned u∧w'.ownsRow w.heap.size 5 1 u (bf N V).length ((bf N V).map (Value.int .u8)))∧Below w.heap.size w w'):=hZz (fun w' v hb ho=>by
  obtain ⟨e1,e2⟩:=HPE.out;rw [e1,e2] at ho;exact ⟨⟨_,rfl,bL ho (Nat.le_succ _)⟩,HBW.out.trans (hb.mono oZm)⟩)
 clear h1;subst hC;go_enter Tryz.func68,Tryz.ntmps68
 go_wp2;go_loopw [3,9] (fun v i wr=>∃k:Nat,k≤n∧i=.int .i64 k∧wr.ownsRow (w.heap.size+1) 5 1 v (16*k) ((cu (cI (N.take k))).map (Value.int .u8))∧Below (w.heap.size+1) (w.alloc (.cells #[.slice a n c,.int .u64 x0,.int .u64 x1,.int .u64 x2,.int .u64 x3,.int .u64 x4,.int .u64 x5,.int .u64 x6] 70)) wr) (fun _ i _=>n-(intOf i).toNat)
 case atStart=>exact ⟨0,Nat.zero_le _,rfl,World.ownsRow_nil _ _ _ _,Below.refl _ _⟩
 case round=>
  obtain ⟨k,hk,rfl,hown,hbel⟩:=hrel;by_cases hlt:k<n
  ·obtain ⟨ab,ao,rfl,haB,hac⟩:=(H1.out _ hbel).hc oZm;have e1:=hac k hlt;have hki:(k:Int)<n:=by omega
   have hbd:=HNA.out k hlt;have HST:=hZz (lk (N:=N) (k:=k) (by have:=HNL.out;omega));have HOW:=hZz hown;have HBE:=hZz hbel;generalize N.getD k 0=x at e1 hbd HST;clear hac hown hbel;go_wp2_with fail;refine (bJ (w.heap.size+1) _ (16*k) _ 1 x _ HOW.out (HQ.out _ HBE.out).2 oZm dZc dZc hbd.1 hbd.2).mono ?_;rintro r w2 ⟨v2,rfl,ho,hb⟩;rw [←bW,←HST.out] at ho;have HO2:Hid (w2.ownsRow (w.heap.size+1) 5 1 v2 (16*(k+1)) ((cu (cI (N.take (k+1)))).map (Value.int .u8))):=hZz ho;have HB2:=hZz (HBE.out.trans hb);clear ho hb;go_wp2;go_roundw
   case rel=>exact ⟨k+1,by omega,by go_num,HO2.out,HB2.out⟩
   case measure=>(simp [intOf]<;>omega)
  ·obtain rfl:n=k:=by omega
   have htk:N.take n=N:=List.take_of_length_le (by have:=HNL.out;omega);rw [htk] at hown;have HO0:Hid (wr.ownsRow (w.heap.size+1) 5 1 _ (16*(n+(aj V 0).length)) ((cu (cI N++aj V 0)).map (Value.int .u8))):=hZz (by
    have e:aj V 0=[]:=rfl;rw [e,List.append_nil];exact hown)
   have HB0:=hZz hbel;obtain ⟨q0,q1,q2,q3,q4,q5,q6,q7⟩:=c8 (HQ.out _ hbel).1;clear hown hbel htk hk hlt;by_cases hz0:x0=0
   ·have hzb0:(x0==0)=true:=by simpa using hz0
    have HO1:=hZz (dm (HK0.out.trans (by rw [if_pos hz0,List.append_nil])) HO0.out);have HB1:=HB0;go_wp2_with fail;refine (bJ (w.heap.size+1) _ (16*(n+(aj V 1).length)) _ 5 x1 _ HO1.out (HQ.out _ HB1.out).2 (by have:=HL.out 1;omega) dZc dZc b1.1 b1.2).mono ?_;rintro r w2 ⟨v2,rfl,ho,hb⟩;have HO2:=hZz (cl HK1.out ho);have HB2:=hZz (HB1.out.trans hb);obtain ⟨q0,q1,q2,q3,q4,q5,q6,q7⟩:=c8 (HQ.out _ HB2.out).1;clear ho hb;go_wp2_with fail;refine (bJ (w.heap.size+1) _ (16*(n+(aj V 2).length)) _ 10 x2 _ HO2.out (HQ.out _ HB2.out).2 (by have:=HL.out 2;omega) dZc dZc b2.1 b2.2).mono ?_;rintro r w2 ⟨v2,rfl,ho,hb⟩;have HO3:=hZz (cl HK2.out ho);have HB3:=hZz (HB2.out.trans hb);obtain ⟨q0,q1,q2,q3,q4,q5,q6,q7⟩:=c8 (HQ.out _ HB3.out).1;clear ho hb;by_cases hz4:x4=0
    ·have hzb4:(x4==0)=true:=by simpa using hz4
     have HO4:=hZz (dm (HK3.out.trans (by rw [if_pos hz4,List.append_nil])) HO3.out);have HB4:=HB3;have HO5:=hZz (dm (HK4.out.trans (by rw [if_pos hz4,List.append_nil])) HO4.out);have HB5:=HB4;by_cases hz6:x6=0
     ·have hzb6:(x6==0)=true:=by simpa using hz6
      have HO6:=hZz (dm (HK5.out.trans (by rw [if_pos hz6,List.append_nil])) HO5.out);have HB6:=HB5;have HO7:=hZz (dm (HK6.out.trans (by rw [if_pos hz6,List.append_nil])) HO6.out);have HB7:=HB6;go_wp2_with fail;refine (bJ (w.heap.size+1) _ (16*(n+(aj V 7).length)) _ 0 0 _ HO7.out (HQ.out _ HB7.out).2 (by have:=HL.out 7;omega) dZc dZc dZc dZc).mono ?_;rintro r w2 ⟨v2,rfl,ho,hb⟩;have HF:=hZz (HFIN.out _ _ (HB7.out.trans hb) ho);clear ho hb;go_wp2;go_ret;exact HF.out
     ·have hzb6:(x6==0)=false:=by simpa using hz6
      go_wp2_with fail;refine (bJ (w.heap.size+1) _ (16*(n+(aj V 5).length)) _ 7 x5 _ HO5.out (HQ.out _ HB5.out).2 (by have:=HL.out 5;omega) dZc dZc b5.1 b5.2).mono ?_;rintro r w2 ⟨v2,rfl,ho,hb⟩;have HO8:=hZz (cl (HK5.out.trans (by rw [if_neg hz6])) ho);have HB8:=hZz (HB5.out.trans hb);obtain ⟨q0,q1,q2,q3,q4,q5,q6,q7⟩:=c8 (HQ.out _ HB8.out).1;clear ho hb;go_wp2_with fail;refine (bJ (w.heap.size+1) _ (16*(n+(aj V 6).length)) _ 8 x6 _ HO8.out (HQ.out _ HB8.out).2 (by have:=HL.out 6;omega) dZc dZc b6.1 b6.2).mono ?_;rintro r w2 ⟨v2,rfl,ho,hb⟩;have HO9:=hZz (cl (HK6.out.trans (by rw [if_neg hz6])) ho);have HB9:=hZz (HB8.out.trans hb);obtain ⟨q0,q1,q2,q3,q4,q5,q6,q7⟩:=c8 (HQ.out _ HB9.out).1;clear ho hb;go_wp2_with fail;refine (bJ (w.heap.size+1) _ (16*(n+(aj V 7).length)) _ 0 0 _ HO9.out (HQ.out _ HB9.out).2 (by have:=HL.out 7;omega) dZc dZc dZc dZc).mono ?_;rintro r w2 ⟨v2,rfl,ho,hb⟩;have HF:=hZz (HFIN.out _ _ (HB9.out.trans hb) ho);clear ho hb;go_wp2;go_ret;exact HF.out
    ·have hzb4:(x4==0)=false:=by simpa using hz4
     go_wp2_with fail;refine (bJ (w.heap.size+1) _ (16*(n+(aj V 3).length)) _ 6 x3 _ HO3.out (HQ.out _ HB3.out).2 (by have:=HL.out 3;omega) dZc dZc b3.1 b3.2).mono ?_;rintro r w2 ⟨v2,rfl,ho,hb⟩;have HO10:=hZz (cl (HK3.out.trans (by rw [if_neg hz4])) ho);have HB10:=hZz (HB3.out.trans hb);obtain ⟨q0,q1,q2,q3,q4,q5,q6,q7⟩:=c8 (HQ.out _ HB10.out).1;clear ho hb;go_wp2_with fail;refine (bJ (w.heap.size+1) _ (16*(n+(aj V 4).length)) _ 1610612749 x4 _ HO10.out (HQ.out _ HB10.out).2 (by have:=HL.out 4;omega) dZc dZc b4.1 b4.2).mono ?_;rintro r w2 ⟨v2,rfl,ho,hb⟩;have HO11:=hZz (cl (HK4.out.trans (by rw [if_neg hz4])) ho);have HB11:=hZz (HB10.out.trans hb);obtain ⟨q0,q1,q2,q3,q4,q5,q6,q7⟩:=c8 (HQ.out _ HB11.out).1;clear ho hb;by_cases hz6:x6=0
     ·have hzb6:(x6==0)=true:=by simpa using hz6
      have HO12:=hZz (dm (HK5.out.trans (by rw [if_pos hz6,List.append_nil])) HO11.out);have HB12:=HB11;have HO13:=hZz (dm (HK6.out.trans (by rw [if_pos hz6,List.append_nil])) HO12.out);have HB13:=HB12;go_wp2_with fail;refine (bJ (w.heap.size+1) _ (16*(n+(aj V 7).length)) _ 0 0 _ HO13.out (HQ.out _ HB13.out).2 (by have:=HL.out 7;omega) dZc dZc dZc dZc).mono ?_;rintro r w2 ⟨v2,rfl,ho,hb⟩;have HF:=hZz (HFIN.out _ _ (HB13.out.trans hb) ho);clear ho hb;go_wp2;go_ret;exact HF.out
     ·have hzb6:(x6==0)=false:=by simpa using hz6
      go_wp2_with fail;refine (bJ (w.heap.size+1) _ (16*(n+(aj V 5).length)) _ 7 x5 _ HO11.out (HQ.out _ HB11.out).2 (by have:=HL.out 5;omega) dZc dZc b5.1 b5.2).mono ?_;rintro r w2 ⟨v2,rfl,ho,hb⟩;have HO14:=hZz (cl (HK5.out.trans (by rw [if_neg hz6])) ho);have HB14:=hZz (HB11.out.trans hb);obtain ⟨q0,q1,q2,q3,q4,q5,q6,q7⟩:=c8 (HQ.out _ HB14.out).1;clear ho hb;go_wp2_with fail;refine (bJ (w.heap.size+1) _ (16*(n+(aj V 6).length)) _ 8 x6 _ HO14.out (HQ.out _ HB14.out).2 (by have:=HL.out 6;omega) dZc dZc b6.1 b6.2).mono ?_;rintro r w2 ⟨v2,rfl,ho,hb⟩;have HO15:=hZz (cl (HK6.out.trans (by rw [if_neg hz6])) ho);have HB15:=hZz (HB14.out.trans hb);obtain ⟨q0,q1,q2,q3,q4,q5,q6,q7⟩:=c8 (HQ.out _ HB15.out).1;clear ho hb;go_wp2_with fail;refine (bJ (w.heap.size+1) _ (16*(n+(aj V 7).length)) _ 0 0 _ HO15.out (HQ.out _ HB15.out).2 (by have:=HL.out 7;omega) dZc dZc dZc dZc).mono ?_;rintro r w2 ⟨v2,rfl,ho,hb⟩;have HF:=hZz (HFIN.out _ _ (HB15.out.trans hb) ho);clear ho hb;go_wp2;go_ret;exact HF.out
   ·have hzb0:(x0==0)=false:=by simpa using hz0
    go_wp2_with fail;refine (bJ (w.heap.size+1) _ (16*(n+(aj V 0).length)) _ 14 x0 _ HO0.out (HQ.out _ HB0.out).2 (by have:=HL.out 0;omega) dZc dZc b0.1 b0.2).mono ?_;rintro r w2 ⟨v2,rfl,ho,hb⟩;have HO16:=hZz (cl (HK0.out.trans (by rw [if_neg hz0])) ho);have HB16:=hZz (HB0.out.trans hb);obtain ⟨q0,q1,q2,q3,q4,q5,q6,q7⟩:=c8 (HQ.out _ HB16.out).1;clear ho hb;go_wp2_with fail;refine (bJ (w.heap.size+1) _ (16*(n+(aj V 1).length)) _ 5 x1 _ HO16.out (HQ.out _ HB16.out).2 (by have:=HL.out 1;omega) dZc dZc b1.1 b1.2).mono ?_;rintro r w2 ⟨v2,rfl,ho,hb⟩;have HO17:=hZz (cl HK1.out ho);have HB17:=hZz (HB16.out.trans hb);obtain ⟨q0,q1,q2,q3,q4,q5,q6,q7⟩:=c8 (HQ.out _ HB17.out).1;clear ho hb;go_wp2_with fail;refine (bJ (w.heap.size+1) _ (16*(n+(aj V 2).length)) _ 10 x2 _ HO17.out (HQ.out _ HB17.out).2 (by have:=HL.out 2;omega) dZc dZc b2.1 b2.2).mono ?_;rintro r w2 ⟨v2,rfl,ho,hb⟩;have HO18:=hZz (cl HK2.out ho);have HB18:=hZz (HB17.out.trans hb);obtain ⟨q0,q1,q2,q3,q4,q5,q6,q7⟩:=c8 (HQ.out _ HB18.out).1;clear ho hb;by_cases hz4:x4=0
    ·have hzb4:(x4==0)=true:=by simpa using hz4
     have HO19:=hZz (dm (HK3.out.trans (by rw [if_pos hz4,List.append_nil])) HO18.out);have HB19:=HB18;have HO20:=hZz (dm (HK4.out.trans (by rw [if_pos hz4,List.append_nil])) HO19.out);have HB20:=HB19;by_cases hz6:x6=0
     ·have hzb6:(x6==0)=true:=by simpa using hz6
      have HO21:=hZz (dm (HK5.out.trans (by rw [if_pos hz6,List.append_nil])) HO20.out);have HB21:=HB20;have HO22:=hZz (dm (HK6.out.trans (by rw [if_pos hz6,List.append_nil])) HO21.out);have HB22:=HB21;go_wp2_with fail;refine (bJ (w.heap.size+1) _ (16*(n+(aj V 7).length)) _ 0 0 _ HO22.out (HQ.out _ HB22.out).2 (by have:=HL.out 7;omega) dZc dZc dZc dZc).mono ?_;rintro r w2 ⟨v2,rfl,ho,hb⟩;have HF:=hZz (HFIN.out _ _ (HB22.out.trans hb) ho);clear ho hb;go_wp2;go_ret;exact HF.out
     ·have hzb6:(x6==0)=false:=by simpa using hz6
      go_wp2_with fail;refine (bJ (w.heap.size+1) _ (16*(n+(aj V 5).length)) _ 7 x5 _ HO20.out (HQ.out _ HB20.out).2 (by have:=HL.out 5;omega) dZc dZc b5.1 b5.2).mono ?_;rintro r w2 ⟨v2,rfl,ho,hb⟩;have HO23:=hZz (cl (HK5.out.trans (by rw [if_neg hz6])) ho);have HB23:=hZz (HB20.out.trans hb);obtain ⟨q0,q1,q2,q3,q4,q5,q6,q7⟩:=c8 (HQ.out _ HB23.out).1;clear ho hb;go_wp2_with fail;refine (bJ (w.heap.size+1) _ (16*(n+(aj V 6).length)) _ 8 x6 _ HO23.out (HQ.out _ HB23.out).2 (by have:=HL.out 6;omega) dZc dZc b6.1 b6.2).mono ?_;rintro r w2 ⟨v2,rfl,ho,hb⟩;have HO24:=hZz (cl (HK6.out.trans (by rw [if_neg hz6])) ho);have HB24:=hZz (HB23.out.trans hb);obtain ⟨q0,q1,q2,q3,q4,q5,q6,q7⟩:=c8 (HQ.out _ HB24.out).1;clear ho hb;go_wp2_with fail;refine (bJ (w.heap.size+1) _ (16*(n+(aj V 7).length)) _ 0 0 _ HO24.out (HQ.out _ HB24.out).2 (by have:=HL.out 7;omega) dZc dZc dZc dZc).mono ?_;rintro r w2 ⟨v2,rfl,ho,hb⟩;have HF:=hZz (HFIN.out _ _ (HB24.out.trans hb) ho);clear ho hb;go_wp2;go_ret;exact HF.out
    ·have hzb4:(x4==0)=false:=by simpa using hz4
     go_wp2_with fail;refine (bJ (w.heap.size+1) _ (16*(n+(aj V 3).length)) _ 6 x3 _ HO18.out (HQ.out _ HB18.out).2 (by have:=HL.out 3;omega) dZc dZc b3.1 b3.2).mono ?_;rintro r w2 ⟨v2,rfl,ho,hb⟩;have HO25:=hZz (cl (HK3.out.trans (by rw [if_neg hz4])) ho);have HB25:=hZz (HB18.out.trans hb);obtain ⟨q0,q1,q2,q3,q4,q5,q6,q7⟩:=c8 (HQ.out _ HB25.out).1;clear ho hb;go_wp2_with fail;refine (bJ (w.heap.size+1) _ (16*(n+(aj V 4).length)) _ 1610612749 x4 _ HO25.out (HQ.out _ HB25.out).2 (by have:=HL.out 4;omega) dZc dZc b4.1 b4.2).mono ?_;rintro r w2 ⟨v2,rfl,ho,hb⟩;have HO26:=hZz (cl (HK4.out.trans (by rw [if_neg hz4])) ho);have HB26:=hZz (HB25.out.trans hb);obtain ⟨q0,q1,q2,q3,q4,q5,q6,q7⟩:=c8 (HQ.out _ HB26.out).1;clear ho hb;by_cases hz6:x6=0
     ·have hzb6:(x6==0)=true:=by simpa using hz6
      have HO27:=hZz (dm (HK5.out.trans (by rw [if_pos hz6,List.append_nil])) HO26.out);have HB27:=HB26;have HO28:=hZz (dm (HK6.out.trans (by rw [if_pos hz6,List.append_nil])) HO27.out);have HB28:=HB27;go_wp2_with fail;refine (bJ (w.heap.size+1) _ (16*(n+(aj V 7).length)) _ 0 0 _ HO28.out (HQ.out _ HB28.out).2 (by have:=HL.out 7;omega) dZc dZc dZc dZc).mono ?_;rintro r w2 ⟨v2,rfl,ho,hb⟩;have HF:=hZz (HFIN.out _ _ (HB28.out.trans hb) ho);clear ho hb;go_wp2;go_ret;exact HF.out
     ·have hzb6:(x6==0)=false:=by simpa using hz6
      go_wp2_with fail;refine (bJ (w.heap.size+1) _ (16*(n+(aj V 5).length)) _ 7 x5 _ HO26.out (HQ.out _ HB26.out).2 (by have:=HL.out 5;omega) dZc dZc b5.1 b5.2).mono ?_;rintro r w2 ⟨v2,rfl,ho,hb⟩;have HO29:=hZz (cl (HK5.out.trans (by rw [if_neg hz6])) ho);have HB29:=hZz (HB26.out.trans hb);obtain ⟨q0,q1,q2,q3,q4,q5,q6,q7⟩:=c8 (HQ.out _ HB29.out).1;clear ho hb;go_wp2_with fail;refine (bJ (w.heap.size+1) _ (16*(n+(aj V 6).length)) _ 8 x6 _ HO29.out (HQ.out _ HB29.out).2 (by have:=HL.out 6;omega) dZc dZc b6.1 b6.2).mono ?_;rintro r w2 ⟨v2,rfl,ho,hb⟩;have HO30:=hZz (cl (HK6.out.trans (by rw [if_neg hz6])) ho);have HB30:=hZz (HB29.out.trans hb);obtain ⟨q0,q1,q2,q3,q4,q5,q6,q7⟩:=c8 (HQ.out _ HB30.out).1;clear ho hb;go_wp2_with fail;refine (bJ (w.heap.size+1) _ (16*(n+(aj V 7).length)) _ 0 0 _ HO30.out (HQ.out _ HB30.out).2 (by have:=HL.out 7;omega) dZc dZc dZc dZc).mono ?_;rintro r w2 ⟨v2,rfl,ho,hb⟩;have HF:=hZz (HFIN.out _ _ (HB30.out.trans hb) ho);clear ho hb;go_wp2;go_ret;exact HF.out
theorem gF {zs:List Int} {p n q k:Nat} (h:q+k≤n):am (am zs p n) q k=am zs (p+q) k:=by
 unfold am;rw [List.drop_take,List.take_take,List.drop_drop,Nat.min_eq_left (by omega)]
structure GC (wr:World) (r0 X g B:Nat) (nd:Value) (st:StD) (n:Nat):Prop where
 res:Blk wr r0 #[.slice none 0 0,.int .u64 0,.int .u64 0,.int .u64 0,.int .u64 0,.int .u64 0,.int .u64 0,.int .u64 0] 70
 box:Blk wr X (nd :: st.v.map (Value.int .u64)).toArray 70
 map:aY wr g X n st.seen
 own:wr.ownsRow B 24 1 nd st.nd.length (st.nd.map (Value.int .u64))
 ok:nK st
 bd:∀n∈st.nd,0≤n∧n≤18446744073709551615
 bv:∀n∈st.v,0≤n∧n≤18446744073709551615
 lt:r0<B∧X<B∧g<B
 ne:r0≠X∧r0≠g∧X≠g
 big:B≤wr.heap.size
theorem GC.call {wr w':World} {r0 X g B n:Nat} {nd:Value} {st:StD} (h:GC wr r0 X g B nd st n) (hb:Below wr.heap.size wr w'):GC w' r0 X g B nd st n:=
 ⟨h.res.later hb,h.box.later hb,h.map.below hb,own_below h.own hb,h.ok,h.bd,h.bv,h.lt,h.ne,Nat.le_trans h.big hb.size⟩
theorem GC.need {wr w':World} {r0 X g B n:Nat} {nd v':Value} {st:StD} {x:Int} (h:GC wr r0 X g B nd st n) (hx:0≤x∧x≤18446744073709551615) (hg:wr.grownBy w' nd.ownBlock) (ho:w'.ownsRow B 24 1 v' (st.nd.length+1) (st.nd.map (Value.int .u64)++[.int .u64 x])) :
 GC (w'.setCell ⟨X,0,none⟩ v') r0 X g B v' ⟨st.nd++[x],st.v,st.seen⟩ n:=by
 obtain ⟨l0,l1,l2⟩:=h.lt;obtain ⟨n0,n1,n2⟩:=h.ne;have hr:∀g,g<B→some g≠nd.ownBlock:=fun g hlt e=>by have:=(h.own.lt g e.symm).1;omega
 refine ⟨(h.res.grown hg (hr _ l0)).setOther n0 _,?_,(h.map.grown hg (hr _ l2)).setCell (fun e=>n2 e.symm) _,?_,h.ok.need x,?_,h.bv,h.lt,h.ne,by rw [World.size_setCell];exact Nat.le_trans h.big hg.size⟩
 ·have:=(h.box.grown hg (hr _ l1)).set 0 v';simpa using this
 ·have h2:w'.ownsRow B 24 1 v' (st.nd++[x]).length ((st.nd++[x]).map (Value.int .u64)):=by simpa using ho
  exact ownsRow_setCell_below h2 l1 _
 ·intro n hn;rcases List.mem_append.1 hn with hn | hn
  ·exact h.bd n hn
  ·obtain rfl:=List.mem_singleton.1 hn;exact hx
theorem GC.put {wr w':World} {r0 X g B n:Nat} {nd:Value} {st:StD} {x:Int} {i:Nat} (h:GC wr r0 X g B nd st n) (hx:0≤x∧x≤18446744073709551615)
 (hm:aY w' g X (n+1) (st.seen.set i true)) (hg:(wr.setCell ⟨X,i+1,none⟩ (.int .u64 x)).grownBy w' (some g)) :
 GC w' r0 X g B nd ⟨st.nd,st.v.set i x,st.seen.set i true⟩ (n+1):=by
 obtain ⟨l0,l1,l2⟩:=h.lt;obtain ⟨n0,n1,n2⟩:=h.ne;refine ⟨(h.res.setOther n0 _).grown hg (fun e=>n1 (by injection e)),?_,hm,?_,h.ok.set i x,h.bd,?_,h.lt,h.ne,?_⟩
 ·have:=(h.box.set (i+1) (.int .u64 x)).grown hg (fun e=>n2 (by injection e));simpa [List.map_set] using this
 ·refine (ownsRow_setCell_below h.own l1 _).kept hg ?_;rcases hq:nd.ownBlock with _ | q
  ·exact .inl rfl
  ·refine .inr fun e=>?_;have:=(h.own.lt q hq).1;injection e with e;omega
 ·intro n hn;rcases List.mem_or_eq_of_mem_set hn with hn | rfl
  ·exact h.bv n hn
  ·exact hx
 ·have h1:=hg.size;rw [World.size_setCell] at h1;exact Nat.le_trans h.big h1
theorem GC.cells {wr:World} {r0 X g B n:Nat} {nd:Value} {st:StD} (h:GC wr r0 X g B nd st n) {i:Nat} (hi:i<7):wr.cell? ⟨X,i+1,none⟩=some (.int .u64 (st.v.getD i 0))∧wr.frozen? ⟨X,i+1,none⟩=false:=by
 refine ⟨?_,h.box.frozen _⟩;rw [h.box.cell];have:=h.ok.v;simp [gZe,gZg (show i<st.v.length by omega)]
def wn:Value→Nat
 | .slice _ m _=>m
 | _=>0
theorem rC {w:World} {base B n:Nat} {v:Value} {xs:List Value} (h:w.ownsRow B 24 1 v n xs) {r0:Nat} (hl:r0<B) (v0 v1 v2 v3 v4 v5 v6 v7:Value) :
 ((((((((w.setCell ⟨r0,0,none⟩ v0).setCell ⟨r0,1,none⟩ v1).setCell ⟨r0,2,none⟩ v2).setCell ⟨r0,3,none⟩ v3).setCell ⟨r0,4,none⟩ v4).setCell ⟨r0,5,none⟩ v5).setCell ⟨r0,6,none⟩ v6).setCell ⟨r0,7,none⟩ v7).ownsRow B 24 1 v n xs:=
 ownsRow_setCell_below (ownsRow_setCell_below (ownsRow_setCell_below (ownsRow_setCell_below (ownsRow_setCell_below (ownsRow_setCell_below (ownsRow_setCell_below (ownsRow_setCell_below h hl _) hl _) hl _) hl _) hl _) hl _) hl _) hl _
theorem eI {w w':World} {r0 B:Nat} (h:Below B w w') (hl:B≤r0) (v0 v1 v2 v3 v4 v5 v6 v7:Value) :
 Below B w ((((((((w'.setCell ⟨r0,0,none⟩ v0).setCell ⟨r0,1,none⟩ v1).setCell ⟨r0,2,none⟩ v2).setCell ⟨r0,3,none⟩ v3).setCell ⟨r0,4,none⟩ v4).setCell ⟨r0,5,none⟩ v5).setCell ⟨r0,6,none⟩ v6).setCell ⟨r0,7,none⟩ v7):=
 (((((((h.setCell hl _).setCell hl _).setCell hl _).setCell hl _).setCell hl _).setCell hl _).setCell hl _).setCell hl _
def pT (base:Nat) (st:StD) (e:Int) (r:Ending) (w':World):Prop:=
 ∃na nc,r=.returned (.tuple #[lR na st.nd.length nc st.v,.int .i64 e])∧w'.ownsRow base 24 1 (.slice na st.nd.length nc) st.nd.length (st.nd.map (Value.int .u64))∧(∀n∈st.nd,0≤n∧n≤18446744073709551615)∧st.v.length=7∧∀n∈st.v,0≤n∧n≤18446744073709551615
theorem gm (base:Nat) (e:Int) (w':World):pT base dq e (.returned (.tuple #[.agg #[.slice none 0 0,.int .u64 0,.int .u64 0,.int .u64 0,.int .u64 0,.int .u64 0,.int .u64 0,.int .u64 0],.int .i64 e])) w':=
 ⟨none,0,rfl,World.ownsRow_nil _ _ _ _,fun _ h=>(by cases h),rfl,by decide⟩
theorem tj (B:Nat) (a:Option Addr) (len cap:Nat) (zs:List Int) (w:World) (hb:Bys w B a len zs) (hB:B≤w.heap.size) (hl:len≤140737488355328) (hc:len≤cap) (hcm:(cap:Int)≤9223372036854775807) :
 Calls Tryz.prog 50 #[.slice a len cap] w fun r w'=>pT w.heap.size (dS zs).2 (dS zs).1 r w'∧Below w.heap.size w w':=by
 obtain ⟨i1,hj,hy0,hy1,hy2⟩:=info_parts ls;have HJ:=hZz hj;have HY0:=hZz hy0;have HY1:=hZz hy1;have HY2:=hZz hy2;have HZB:=hZz hb.2.1;have HZL:=hZz hb.1;obtain ⟨g0,off,HA⟩:∃g0 off,Hid (0<len→a=some ⟨g0,off,none⟩∧g0<B):=by
  by_cases h0:0<len
  ·obtain ⟨b,off,e,h1,_⟩:=hb.2.2 h0;exact ⟨b,off,hZz (fun _=>⟨e,h1⟩)⟩
  ·exact ⟨0,0,hZz (fun h=>absurd h h0)⟩
 have HBY:=hZz hb;have hli:(len:Int)≤140737488355328:=by omega
 obtain ⟨R,hR⟩:∃R,dS zs=R:=⟨_,rfl⟩
 rw [hR];have HR:=hZz hR;have HW0:Hid (Below w.heap.size w ((w.alloc (.cells #[.slice none 0 0,.int .u64 0,.int .u64 0,.int .u64 0,.int .u64 0,.int .u64 0,.int .u64 0,.int .u64 0] 70)).alloc (.cells #[.slice none 0 0,.int .u64 0,.int .u64 0,.int .u64 0,.int .u64 0,.int .u64 0,.int .u64 0,.int .u64 0] 70))):=hZz (((Below.refl _ _).alloc (lZr _) _).alloc (by simp) _);clear hb hj hy0 hy1 hy2 hR;go_enter Tryz.func50,Tryz.ntmps50
 go_wp2_with fail;refine (mk _ _).mono ?_;rintro r w1 ⟨g,rfl,hg,hf,hb1⟩;have HGC0:Hid (GC w1 w.heap.size (w.heap.size+1) g w1.heap.size (.slice none 0 0) dq 7):=hZz (by
  have hs:=hb1.size;have hgl:=hf.lt;simp only [World.size_alloc] at hg hs hf;refine ⟨((Blk.new w _ _).alloc _).later hb1,?_,hf,World.ownsRow_nil _ _ _ _,vt,fun _ h=>by simp [dq] at h,by decide,⟨by omega,by omega,by omega⟩,⟨by omega,by omega,by omega⟩,lZr _⟩;have h2:=(Blk.new (w.alloc (.cells #[.slice none 0 0,.int .u64 0,.int .u64 0,.int .u64 0,.int .u64 0,.int .u64 0,.int .u64 0,.int .u64 0] 70)) #[.slice none 0 0,.int .u64 0,.int .u64 0,.int .u64 0,.int .u64 0,.int .u64 0,.int .u64 0,.int .u64 0] 70).later hb1;have h3:Blk w1 (w.heap.size+1) #[.slice none 0 0,.int .u64 0,.int .u64 0,.int .u64 0,.int .u64 0,.int .u64 0,.int .u64 0,.int .u64 0] 70:=by simpa using h2
  exact h3)
 have HB1:=hZz (HW0.out.trans (hb1.mono HW0.out.size));have hgw:w.heap.size≤g:=by simp only [World.size_alloc] at hg;omega
 obtain ⟨X,hX⟩:∃X,w.heap.size+1=X:=⟨_,rfl⟩
 obtain ⟨BB,hBB⟩:∃BB,w1.heap.size=BB:=⟨_,rfl⟩
 rw [hX,hBB] at HGC0;have hXw:w.heap.size≤X:=by omega
 clear hg hf hb1;simp only [World.size_alloc,hX];go_wp2;go_loopw [0] (fun b wr=>∃(k m cp:Nat) (ad:Option Addr) (nd:Value) (st:StD) (n:Nat),b=.slice ad m cp∧16*k+m=len∧16*k+cp=cap∧(16≤m→ad=some ⟨g0,off+16*k,none⟩)∧n≤7+k∧st.nd.length≤k∧GC wr w.heap.size X g BB nd st n∧eM zs (zs.length+1-k) k st=R∧Below w.heap.size w wr) (fun b _=>wn b)
 case atStart=>exact ⟨0,len,cap,a,_,dq,7,rfl,by omega,by omega,fun h=>(HA.out oZm).1,by omega,lZr _,HGC0.out,HR.out,HB1.out⟩
 case round=>
  obtain ⟨k,m,cp,ad,nd,st,n,rfl,hm,hcp,had,hnk,hnd,hgs,hout,hbel⟩:=hrel;have HGS:=hZz hgs;have HBE:=hZz hbel;have hzl:=HZL.out;by_cases hsh:m<16
  ·have hr:=qY (zs:=zs) (k:=k) (s:=st) oZm oZm;rw [hout] at hr;subst hr;obtain ⟨q0,q1,q2,q3,q4,q5,q6,q7⟩:=c8 hgs.res;obtain ⟨f0,f1,f2,f3,f4,f5,f6,f7⟩:=f8 hgs.res;have hmi:(m:Int)<16:=by omega
   clear hgs hout hbel HR hzl had;go_wp2;refine bodyPost_ret (v:=.tuple #[.agg #[.slice none 0 0,.int .u64 0,.int .u64 0,.int .u64 0,.int .u64 0,.int .u64 0,.int .u64 0,.int .u64 0],.int .i64 10]) (by simp [results,Tryz.results50,go_sem,q0,q1,q2,q3,q4,q5,q6,q7]) rfl ⟨gm _ _ _,eI HBE.out (lZr _) _ _ _ _ _ _ _ _⟩
  ·obtain rfl:=had oZm;have hmi:¬(m:Int)<16:=by omega
   have hmi2:(16:Int)≤m:=by omega
   have hcpi:(m:Int)≤cp:=by omega
   have hcpm:(cp:Int)≤9223372036854775807:=by omega
   have hrd:16*k+16≤zs.length:=by omega
   have HBYW:Hid (Bys wr B (some ⟨g0,off+16*k,none⟩) m (am zs (16*k) m)):=hZz (by
    have h:=HBY.out.below (hbel.mono hB);rw [(HA.out oZm).1] at h;exact h.sub oZm)
   have HG1:Hid (Calls Tryz.prog 97 #[.slice (some ⟨g0,off+16*k,none⟩) m cp,.int .u64 0] wr fun e w'=>e=.returned (.int .u64 (ei zs k))∧wr=w'):=hZz (by
    have h:=kR B _ m cp _ 0 wr HBYW.out oZm oZm;rw [gF (by omega)] at h;exact h)
   have HG2:Hid (Calls Tryz.prog 97 #[.slice (some ⟨g0,off+16*k,none⟩) m cp,.int .u64 8] wr fun e w'=>e=.returned (.int .u64 (fF zs k))∧wr=w'):=hZz (by
    have h:=kR B _ m cp _ 8 wr HBYW.out oZm oZm;rw [gF (by omega)] at h;exact h)
   have htb:=sp (k:=k) HZB.out hrd;have hvb:=rY (k:=k) HZB.out hrd;have HEND:=hZz (fun h=>(uW (s:=st) hrd h).symm.trans hout);have HNEED:=hZz (fun h=>(tK (s:=st) hrd h).symm.trans hout);have HFORM:=hZz (fun h0 h1 hi=>(su (s:=st) hrd h0 h1 hi).symm.trans hout);have HOVER:=hZz (fun i h0 h1 hi hs=>(ur (i:=i) (s:=st) hrd h0 h1 hi hs).symm.trans hout);have HSET:=hZz (fun i h0 h1 hi hs=>(uz (i:=i) (s:=st) hrd h0 h1 hi hs).symm.trans hout);generalize ei zs k=t at HG1 htb HEND HNEED HFORM HOVER HSET;generalize fF zs k=x at HG2 hvb HEND HNEED HFORM HOVER HSET;have HXB:=hZz hvb;clear hout hbel HR hzl had HBYW hrd;by_cases t0:t=0
   ·subst t0;have hend:=HEND.out rfl;have HWH:=hZz (rk g X n st wr hgs.map);obtain ⟨x0,x1,x2,x3,x4,x5,x6,hv⟩:=qu hgs.ok.v;clear HEND HNEED HFORM HOVER HSET hgs;by_cases hw:jn st=true
    ·rw [if_pos hw] at hend;subst hend;rw [hw] at HWH;obtain ⟨na,nc,rfl⟩:=bF HGS.out.own;go_wp2_with (first | (go_at_call 97;with_reducible refine HG1.out.mono ?_;rintro e w' ⟨rfl,rfl⟩) | (go_at_call 97;with_reducible refine HG2.out.mono ?_;rintro e w' ⟨rfl,rfl⟩));refine HWH.out.mono ?_;rintro r w3 ⟨rfl,hb3⟩;have HGS3:=hZz (HGS.out.call hb3);have HB3:=hZz (HBE.out.trans (hb3.mono HBE.out.size));have hbx:=HGS3.out.box;rw [hv] at hbx;obtain ⟨p0,p1,p2,p3,p4,p5,p6,p7⟩:=c8 hbx;obtain ⟨q0,q1,q2,q3,q4,q5,q6,q7⟩:=c8 HGS3.out.res;obtain ⟨f0,f1,f2,f3,f4,f5,f6,f7⟩:=f8 HGS3.out.res;clear hb3 hbx;go_wp2;refine bodyPost_ret (v:=.tuple #[.agg #[.slice na st.nd.length nc,.int .u64 x0,.int .u64 x1,.int .u64 x2,.int .u64 x3,.int .u64 x4,.int .u64 x5,.int .u64 x6],.int .i64 0]) (by simp [results,Tryz.results50,go_sem,q0,q1,q2,q3,q4,q5,q6,q7]) rfl ⟨⟨na,nc,?_,bL (rC (base:=0) HGS3.out.own HGS3.out.lt.1 _ _ _ _ _ _ _ _) (Nat.le_of_lt HGS3.out.lt.1),HGS3.out.bd,HGS3.out.ok.v,HGS3.out.bv⟩,eI HB3.out (lZr _) _ _ _ _ _ _ _ _⟩;rw [hv];rfl
    ·have hw':jn st=false:=by simpa using hw
     rw [if_neg hw] at hend;subst hend;rw [hw'] at HWH;go_wp2_with (first | (go_at_call 97;with_reducible refine HG1.out.mono ?_;rintro e w' ⟨rfl,rfl⟩) | (go_at_call 97;with_reducible refine HG2.out.mono ?_;rintro e w' ⟨rfl,rfl⟩));refine HWH.out.mono ?_;rintro r w3 ⟨rfl,hb3⟩;have HGS3:=hZz (HGS.out.call hb3);have HB3:=hZz (HBE.out.trans (hb3.mono HBE.out.size));obtain ⟨q0,q1,q2,q3,q4,q5,q6,q7⟩:=c8 HGS3.out.res;obtain ⟨f0,f1,f2,f3,f4,f5,f6,f7⟩:=f8 HGS3.out.res;clear hb3;go_wp2;refine bodyPost_ret (v:=.tuple #[.agg #[.slice none 0 0,.int .u64 0,.int .u64 0,.int .u64 0,.int .u64 0,.int .u64 0,.int .u64 0,.int .u64 0],.int .i64 11]) (by simp [results,Tryz.results50,go_sem,q0,q1,q2,q3,q4,q5,q6,q7]) rfl ⟨gm _ _ _,eI HB3.out (lZr _) _ _ _ _ _ _ _ _⟩
   ·by_cases t1:t=1
    ·subst t1;have hn:=HNEED.out rfl;have HOWN:=hZz hgs.own;have hbx0:=hgs.box.cell 0;have hcf0:=hgs.box.frozen 0;have hbx0':wr.cell? ⟨X,0,none⟩=some nd:=by rw [hbx0];rfl
     clear HEND HNEED HFORM HOVER HSET hgs hbx0;go_wp2_with (first | (go_at_call 97;with_reducible refine HG1.out.mono ?_;rintro e w' ⟨rfl,rfl⟩) | (go_at_call 97;with_reducible refine HG2.out.mono ?_;rintro e w' ⟨rfl,rfl⟩) | (at_builtin;refine wpList_append_own _ rfl _ _ 68 rfl BB 24 i1 (.int .u64 0) 1 8 Tryz.underlying68 HJ.out HY0.out HY1.out HY2.out rfl dZc _ st.nd.length _ rfl (HOWN.out.alloc _) ⟨wr.heap.size,0,none⟩ 1 1 [.int .u64 x] rfl rfl ?e1 ?e2 ?e3 ?e4 ?e5 ?_));case e1=>exact cell_one_new _ _ _
     case e2=>intro u hu;obtain rfl:=List.mem_singleton.1 hu;rfl
     case e3=>unfold maxLen;omega
     case e4=>omega
     case e5=>have:=HGS.out.big;simp;omega
     intro v4 w4 hown4 hg4 _;obtain ⟨ua4,uc4,rfl⟩:=bF hown4;have hga:=HGS.out.call ((Below.refl _ _).alloc (lZr wr.heap.size) (.cells #[.int .u64 x] 24));have hbx:=hga.box.grown hg4 (fun e=>by have:=(HOWN.out.lt X e.symm).1;have:=HGS.out.lt.2.1;omega);have c0:=hbx.cell 0;have c0':w4.cell? ⟨X,0,none⟩=some nd:=by rw [c0];rfl
     have z0:=hbx.frozen 0;have HGN:=hZz (hga.need HXB.out hg4 hown4);have HB4:Hid (Below w.heap.size w w4):=hZz ((HBE.out.alloc HBE.out.size _).grown hg4 (by have:=HBE.out.size;simp;omega) (fun q e=>by have:=(HOWN.out.lt q e).1;have:=HGS.out.lt.1;omega));have HN:=hZz hn;clear hown4 hg4 hga hbx hn c0 hbx0' hcf0;go_wp2;go_roundw
     case rel=>exact ⟨k+1,m-16,cp-16,_,_,_,n,rfl,by omega,by omega,fun h=>by rw [if_neg oZm,show off+16*k+16=off+16*(k+1) by omega],by omega,by simp;omega,HGN.out,HN.out,HB4.out.setCell hXw _⟩
     case measure=>(simp [wn]<;>omega)
    ·have t0':(t==0)=false:=by simpa using t0
     have t1':(t==1)=false:=by simpa using t1
     cases hix:fD t with
     | none=>
       have hr:=HFORM.out t0 t1 hix;subst hr;have HFI:=hZz (qR g X n st.seen t x wr htb hgs.map hix);obtain ⟨q0,q1,q2,q3,q4,q5,q6,q7⟩:=c8 hgs.res;obtain ⟨f0,f1,f2,f3,f4,f5,f6,f7⟩:=f8 hgs.res;clear HEND HNEED HFORM HOVER HSET hgs;go_wp2_with (first | (go_at_call 97;with_reducible refine HG1.out.mono ?_;rintro e w' ⟨rfl,rfl⟩) | (go_at_call 97;with_reducible refine HG2.out.mono ?_;rintro e w' ⟨rfl,rfl⟩) | (go_at_call 99;with_reducible refine HFI.out.mono ?_;rintro e w' ⟨rfl,rfl⟩));refine bodyPost_ret (v:=.tuple #[.agg #[.slice none 0 0,.int .u64 0,.int .u64 0,.int .u64 0,.int .u64 0,.int .u64 0,.int .u64 0,.int .u64 0],.int .i64 11]) (by simp [results,Tryz.results50,go_sem,q0,q1,q2,q3,q4,q5,q6,q7]) rfl ⟨gm _ _ _,eI HBE.out (lZr _) _ _ _ _ _ _ _ _⟩
     | some i=>
       obtain ⟨hi7,-⟩:=dU hix;cases hsn:st.seen.getD i false with
       | true=>
         have hr:=HOVER.out i t0 t1 hix hsn;subst hr;have HFI:=hZz (rD g X n st.seen t x i wr htb hgs.map hix hsn);obtain ⟨q0,q1,q2,q3,q4,q5,q6,q7⟩:=c8 hgs.res;obtain ⟨f0,f1,f2,f3,f4,f5,f6,f7⟩:=f8 hgs.res;clear HEND HNEED HFORM HOVER HSET hgs hsn hix;go_wp2_with (first | (go_at_call 97;with_reducible refine HG1.out.mono ?_;rintro e w' ⟨rfl,rfl⟩) | (go_at_call 97;with_reducible refine HG2.out.mono ?_;rintro e w' ⟨rfl,rfl⟩) | (go_at_call 99;with_reducible refine HFI.out.mono ?_;rintro e w' ⟨rfl,rfl⟩));refine bodyPost_ret (v:=.tuple #[.agg #[.slice none 0 0,.int .u64 0,.int .u64 0,.int .u64 0,.int .u64 0,.int .u64 0,.int .u64 0,.int .u64 0],.int .i64 12]) (by simp [results,Tryz.results50,go_sem,q0,q1,q2,q3,q4,q5,q6,q7]) rfl ⟨gm _ _ _,eI HBE.out (lZr _) _ _ _ _ _ _ _ _⟩
       | false=>
         have HN:=hZz (HSET.out i t0 t1 hix hsn);obtain ⟨cx,fx⟩:=hgs.cells hi7;have HFI:=hZz (vD g X n st.seen t x i wr _ htb hgs.map (fun e=>hgs.ne.2.2 e.symm) (by unfold maxLen;omega) hgs.ok.seen hix hsn cx fx);clear HEND HNEED HFORM HOVER HSET hgs hsn hix cx fx;go_wp2_with (first | (go_at_call 97;with_reducible refine HG1.out.mono ?_;rintro e w' ⟨rfl,rfl⟩) | (go_at_call 97;with_reducible refine HG2.out.mono ?_;rintro e w' ⟨rfl,rfl⟩));refine HFI.out.mono ?_;rintro r w4 ⟨rfl,hm4,hg4⟩;have HGP:=hZz (HGS.out.put HXB.out hm4 hg4);have HB4:Hid (Below w.heap.size w w4):=hZz ((Below.setCell HBE.out (show w.heap.size≤(⟨X,i+1,none⟩:Addr).block from hXw) (.int .u64 x)).grown hg4 (by have:=HBE.out.size;rw [World.size_setCell];exact this) (fun q e=>by injection e with e;omega));clear hm4 hg4;go_wp2;go_roundw
         case rel=>exact ⟨k+1,m-16,cp-16,_,_,_,n+1,rfl,by omega,by omega,fun h=>by rw [if_neg oZm,show off+16*k+16=off+16*(k+1) by omega],by omega,by show st.nd.length≤k+1;omega,HGP.out,HN.out,HB4.out⟩
         case measure=>(simp [wn]<;>omega)
end Go.Proofs.YtclgbdfkdbbinaaGreat
