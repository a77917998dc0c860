/-
  What is proved here: words and contracts, a part of those that the statement rests on (C11).
  Conditions: none but that the arguments are values of their types.
-/
import Derived.Test.YtclgbdfkdbbinaaGreatC2
import Derived.Test.YtclgbdfkdbbinaaGreatC7
import Derived.Test.YtclgbdfkdbbinaaGreatC4
import Derived.Test.YtclgbdfkdbbinaaGreatC1
import Derived.Test.YtclgbdfkdbbinaaGreatC6
import Derived.Test.YtclgbdfkdbbinaaGreatC5
set_option linter.unusedVariables false
set_option linter.unusedSimpArgs false
set_option maxRecDepth 100000
set_option maxHeartbeats 12800000
namespace Go.Proofs.YtclgbdfkdbbinaaGreat
open Go.RowKit
theorem eight_ok (base:Nat) (v:Value) (m:Nat) (zs:List Int) (x:Int) (n:Nat) (w:World) (ho:w.ownsRow base 5 1 v m (zs.map (Value.int .u8))) (hbase:base≤w.heap.size) (hm:m+n≤1000000) (x0:0≤x) (x1:x≤18446744073709551615) :
 Calls Tryz.prog 83 #[v,.int .u64 x,.int .i64 n] w fun r w'=>∃v',r=.returned v'∧w'.ownsRow base 5 1 v' (m+n) ((zs++digs x n).map (Value.int .u8))∧Below base w w':=by
 obtain ⟨i0,hi,hz0,hz1,hz2⟩:=info_parts info_u8;have HO:=Lib.hid ho;have HI:=Lib.hid hi;have HZ0:=Lib.hid hz0;have HZ1:=Lib.hid hz1;have HZ2:=Lib.hid hz2;have hni:(n:Int)≤1000000:=by omega
 clear ho hi hz0 hz1 hz2;go_enter Tryz.func83,Tryz.ntmps83
 go_wp2;go_loopw [0,1,7] (fun v' y i wr=>∃k:Nat,k≤n∧i=.int .i64 k∧y=.int .u64 (x / 256 ^ k)∧wr.ownsRow base 5 1 v' (m+k) ((zs++digs x k).map (Value.int .u8))∧Below base w wr) (fun _ _ i _=>n-(intOf i).toNat)
 case atStart=>exact ⟨0,Nat.zero_le _,rfl,by simp,by simpa [digs] using HO.out,Below.refl _ _⟩
 case round=>
  obtain ⟨k,hk,rfl,rfl,hown,hbel⟩:=hrel;by_cases hlt:k<n
  ·have hdv:=Lib.hid (div_step x k);have hdg:Hid (digs x (k+1)=digs x k++[x / 256 ^ k % 256]):=Lib.hid rfl;have hy0:0≤x / 256 ^ k:=Int.ediv_nonneg x0 (Int.pow_nonneg (by decide));have hy1:x / 256 ^ k≤18446744073709551615:=Int.le_trans (Int.ediv_le_self _ x0) x1;generalize x / 256 ^ k=y at hdv hdg hy0 hy1⊢;have hsz:=hbel.size;have HOWN:=Lib.hid hown;clear hown;go_wp2_with (at_builtin;refine wpList_append_own _ rfl _ _ 22 rfl base 5 i0 (.int .u8 0) 1 1 Tryz.underlying22 HI.out HZ0.out HZ1.out HZ2.out rfl (by decide) _ (m+k) _ rfl (HOWN.out.alloc _) ⟨wr.heap.size,0,none⟩ 1 1 [.int .u8 (y % 256)] rfl rfl ?c1 ?c2 ?c3 ?c4 ?c5 ?_);case c1=>exact cell_one_new _ _ _
   case c2=>intro u hu;obtain rfl:=List.mem_singleton.1 hu;rfl
   case c3=>unfold maxLen;omega
   case c4=>omega
   case c5=>simp;omega
   intro v2 w2 hown2 hg2 hnil2;have hb2:Below base w w2:=(hbel.alloc (by omega) _).grown hg2 (by simp;omega) (fun q e=>(HOWN.out.lt q e).1);have HO2:Hid (w2.ownsRow base 5 1 v2 (m+(k+1)) ((zs++digs x (k+1)).map (Value.int .u8))):=Lib.hid (by
    rw [hdg.out];simpa only [List.map_append,List.append_assoc,List.map_cons,List.map_nil,Nat.add_assoc] using hown2)
   clear hown2 hg2 hnil2 hbel;go_wp2;go_roundw
   case rel=>exact ⟨k+1,by omega,by go_num,by rw [hdv.out],HO2.out,hb2⟩
   case measure=>simp [intOf];omega
  ·obtain rfl:k=n:=by omega
   have HOW:=Lib.hid hown;clear hown;go_wp2;go_ret;exact ⟨_,rfl,HOW.out,hbel⟩
def partsS (s:Sg):List (List Int):=[digs s.ty 4,digs s.fl 4,digs s.ot 8,digs s.va 8,digs s.va 8,digs s.fi 8,digs s.me 8,digs s.al 8]
def catS (s:Sg) (k:Nat):List Int:=((partsS s).take k).flatten
theorem catS_zero (s:Sg):catS s 0=[]:=rfl
theorem catS_1 (s:Sg):catS s 0++digs s.ty 4=catS s 1:=by simp [catS,partsS]
theorem catS_2 (s:Sg):catS s 1++digs s.fl 4=catS s 2:=by simp [catS,partsS]
theorem catS_3 (s:Sg):catS s 2++digs s.ot 8=catS s 3:=by simp [catS,partsS]
theorem catS_4 (s:Sg):catS s 3++digs s.va 8=catS s 4:=by simp [catS,partsS]
theorem catS_5 (s:Sg):catS s 4++digs s.va 8=catS s 5:=by simp [catS,partsS]
theorem catS_6 (s:Sg):catS s 5++digs s.fi 8=catS s 6:=by simp [catS,partsS]
theorem catS_7 (s:Sg):catS s 6++digs s.me 8=catS s 7:=by simp [catS,partsS]
theorem catS_8 (s:Sg):catS s 7++digs s.al 8=catS s 8:=by simp [catS,partsS]
theorem lenS_0 (s:Sg):(catS s 0).length=0:=by simp [catS,partsS,digs_len]
theorem lenS_1 (s:Sg):(catS s 1).length=4:=by simp [catS,partsS,digs_len]
theorem lenS_2 (s:Sg):(catS s 2).length=8:=by simp [catS,partsS,digs_len]
theorem lenS_3 (s:Sg):(catS s 3).length=16:=by simp [catS,partsS,digs_len]
theorem lenS_4 (s:Sg):(catS s 4).length=24:=by simp [catS,partsS,digs_len]
theorem lenS_5 (s:Sg):(catS s 5).length=32:=by simp [catS,partsS,digs_len]
theorem lenS_6 (s:Sg):(catS s 6).length=40:=by simp [catS,partsS,digs_len]
theorem lenS_7 (s:Sg):(catS s 7).length=48:=by simp [catS,partsS,digs_len]
theorem lenS_8 (s:Sg):(catS s 8).length=56:=by simp [catS,partsS,digs_len]
theorem catS_all (s:Sg):catS s 8=encS s:=by simp [catS,partsS,encS]
theorem k4_rput_ok (s:Sg) (w:World) (h:s.Ok) :
 Calls Tryz.prog 39 #[s.val] w fun r w'=>(∃u,r=.returned u∧w'.ownsRow w.heap.size 5 1 u 56 ((encS s).map (Value.int .u8)))∧Below w.heap.size w w':=by
 have HCAT:=Lib.hid (catS_all s);have HC1:=Lib.hid (catS_1 s);have HC2:=Lib.hid (catS_2 s);have HC3:=Lib.hid (catS_3 s);have HC4:=Lib.hid (catS_4 s);have HC5:=Lib.hid (catS_5 s);have HC6:=Lib.hid (catS_6 s);have HC7:=Lib.hid (catS_7 s);have HC8:=Lib.hid (catS_8 s);obtain ⟨⟨a0,a1⟩,⟨b0,b1⟩,⟨c0,c1⟩,⟨d0,d1⟩,⟨e0,e1⟩,⟨f0,f1⟩,⟨g0,g1⟩⟩:=h;obtain ⟨ty,fl,ot,va,fi,me,al⟩:=s;simp only at a0 a1 b0 b1 c0 c1 d0 d1 e0 e1 f0 f1 g0 g1 HC1 HC2 HC3 HC4 HC5 HC6 HC7 HC8;generalize hS:(⟨ty,fl,ot,va,fi,me,al⟩:Sg)=S at HC1 HC2 HC3 HC4 HC5 HC6 HC7 HC8 HCAT⊢;have HQ:Hid (∀w',Below (w.heap.size+1) (w.alloc (.cells #[.int .u32 ty,.int .u32 fl,.int .u64 ot,.int .u64 va,.int .u64 fi,.int .u64 me,.int .u64 al] 65)) w'→Blk w' w.heap.size #[.int .u32 ty,.int .u32 fl,.int .u64 ot,.int .u64 va,.int .u64 fi,.int .u64 me,.int .u64 al] 65∧w.heap.size+1≤w'.heap.size):=Lib.hid (fun w' hb=>
  ⟨(Blk.new w _ _).below hb (Nat.lt_succ_self _),by have:=hb.size;simp at this;omega⟩)
 have HB0:Hid (Below (w.heap.size+1) (w.alloc (.cells #[.int .u32 ty,.int .u32 fl,.int .u64 ot,.int .u64 va,.int .u64 fi,.int .u64 me,.int .u64 al] 65)) (w.alloc (.cells #[.int .u32 ty,.int .u32 fl,.int .u64 ot,.int .u64 va,.int .u64 fi,.int .u64 me,.int .u64 al] 65))):=Lib.hid (Below.refl _ _);have HBW:Hid (Below w.heap.size w (w.alloc (.cells #[.int .u32 ty,.int .u32 fl,.int .u64 ot,.int .u64 va,.int .u64 fi,.int .u64 me,.int .u64 al] 65))):=Lib.hid ((Below.refl _ _).alloc (Nat.le_refl _) _);have HO0:Hid ((w.alloc (.cells #[.int .u32 ty,.int .u32 fl,.int .u64 ot,.int .u64 va,.int .u64 fi,.int .u64 me,.int .u64 al] 65)).ownsRow (w.heap.size+1) 5 1 (.slice none 0 0) 0 ((catS S 0).map (Value.int .u8))):=Lib.hid (by rw [catS_zero];exact World.ownsRow_nil _ _ _ _);rw [←hS];unfold Sg.val;simp only
 rw [hS];clear hS;go_enter Tryz.func39,Tryz.ntmps39
 go_wp2_with fail;refine (eight_ok (w.heap.size+1) _ 0 (catS S 0) ty 4 _ HO0.out (HQ.out _ HB0.out).2 (by decide) (by omega) (by omega)).mono ?_;rintro r w1 ⟨v1,rfl,ho,hb⟩;rw [HC1.out] at ho;have HO1:=Lib.hid ho;have HB1:=Lib.hid (HB0.out.trans hb);obtain ⟨q0,q1,q2,q3,q4,q5,q6⟩:=(HQ.out _ HB1.out).1.c7;clear ho hb;go_wp2_with fail;refine (eight_ok (w.heap.size+1) _ 4 (catS S 1) fl 4 _ HO1.out (HQ.out _ HB1.out).2 (by decide) (by omega) (by omega)).mono ?_;rintro r w2 ⟨v2,rfl,ho,hb⟩;rw [HC2.out] at ho;have HO2:=Lib.hid ho;have HB2:=Lib.hid (HB1.out.trans hb);obtain ⟨q0,q1,q2,q3,q4,q5,q6⟩:=(HQ.out _ HB2.out).1.c7;clear ho hb;go_wp2_with fail;refine (eight_ok (w.heap.size+1) _ 8 (catS S 2) ot 8 _ HO2.out (HQ.out _ HB2.out).2 (by decide) (by omega) (by omega)).mono ?_;rintro r w3 ⟨v3,rfl,ho,hb⟩;rw [HC3.out] at ho;have HO3:=Lib.hid ho;have HB3:=Lib.hid (HB2.out.trans hb);obtain ⟨q0,q1,q2,q3,q4,q5,q6⟩:=(HQ.out _ HB3.out).1.c7;clear ho hb;go_wp2_with fail;refine (eight_ok (w.heap.size+1) _ 16 (catS S 3) va 8 _ HO3.out (HQ.out _ HB3.out).2 (by decide) (by omega) (by omega)).mono ?_;rintro r w4 ⟨v4,rfl,ho,hb⟩;rw [HC4.out] at ho;have HO4:=Lib.hid ho;have HB4:=Lib.hid (HB3.out.trans hb);obtain ⟨q0,q1,q2,q3,q4,q5,q6⟩:=(HQ.out _ HB4.out).1.c7;clear ho hb;go_wp2_with fail;refine (eight_ok (w.heap.size+1) _ 24 (catS S 4) va 8 _ HO4.out (HQ.out _ HB4.out).2 (by decide) (by omega) (by omega)).mono ?_;rintro r w5 ⟨v5,rfl,ho,hb⟩;rw [HC5.out] at ho;have HO5:=Lib.hid ho;have HB5:=Lib.hid (HB4.out.trans hb);obtain ⟨q0,q1,q2,q3,q4,q5,q6⟩:=(HQ.out _ HB5.out).1.c7;clear ho hb;go_wp2_with fail;refine (eight_ok (w.heap.size+1) _ 32 (catS S 5) fi 8 _ HO5.out (HQ.out _ HB5.out).2 (by decide) (by omega) (by omega)).mono ?_;rintro r w6 ⟨v6,rfl,ho,hb⟩;rw [HC6.out] at ho;have HO6:=Lib.hid ho;have HB6:=Lib.hid (HB5.out.trans hb);obtain ⟨q0,q1,q2,q3,q4,q5,q6⟩:=(HQ.out _ HB6.out).1.c7;clear ho hb;go_wp2_with fail;refine (eight_ok (w.heap.size+1) _ 40 (catS S 6) me 8 _ HO6.out (HQ.out _ HB6.out).2 (by decide) (by omega) (by omega)).mono ?_;rintro r w7 ⟨v7,rfl,ho,hb⟩;rw [HC7.out] at ho;have HO7:=Lib.hid ho;have HB7:=Lib.hid (HB6.out.trans hb);obtain ⟨q0,q1,q2,q3,q4,q5,q6⟩:=(HQ.out _ HB7.out).1.c7;clear ho hb;go_wp2_with fail;refine (eight_ok (w.heap.size+1) _ 48 (catS S 7) al 8 _ HO7.out (HQ.out _ HB7.out).2 (by decide) (by omega) (by omega)).mono ?_;rintro r w8 ⟨v8,rfl,ho,hb⟩;rw [HC8.out] at ho;have HO8:=Lib.hid ho;have HB8:=Lib.hid (HB7.out.trans hb);obtain ⟨q0,q1,q2,q3,q4,q5,q6⟩:=(HQ.out _ HB8.out).1.c7;clear ho hb;go_wp2;go_ret;refine ⟨⟨_,rfl,?_⟩,HBW.out.trans (HB8.out.mono (Nat.le_succ _))⟩;rw [←HCAT.out];exact own_base HO8.out (Nat.le_succ _)
theorem k4_put_own (s:Sg) (w:World) (h:s.Ok) :
 Calls Tryz.prog 73 #[s.val] w fun r w'=>(∃u,r=.returned u∧w'.ownsRow w.heap.size 5 1 u 56 ((encS s).map (Value.int .u8)))∧Below w.heap.size w w':=by
 obtain ⟨i0,hi,hz0,hz1,hz2⟩:=info_parts info_u8;have HI:=Lib.hid hi;have HZ0:=Lib.hid hz0;have HZ1:=Lib.hid hz1;have HZ2:=Lib.hid hz2;have HCAT:=Lib.hid (catS_all s);have HC1:=Lib.hid (catS_1 s);have HC2:=Lib.hid (catS_2 s);have HC3:=Lib.hid (catS_3 s);have HC4:=Lib.hid (catS_4 s);have HC5:=Lib.hid (catS_5 s);have HC6:=Lib.hid (catS_6 s);have HC7:=Lib.hid (catS_7 s);have HC8:=Lib.hid (catS_8 s);have HL0:=Lib.hid (lenS_0 s);have HL1:=Lib.hid (lenS_1 s);have HL2:=Lib.hid (lenS_2 s);have HL3:=Lib.hid (lenS_3 s);have HL4:=Lib.hid (lenS_4 s);have HL5:=Lib.hid (lenS_5 s);have HL6:=Lib.hid (lenS_6 s);have HL7:=Lib.hid (lenS_7 s);have HL8:=Lib.hid (lenS_8 s);obtain ⟨⟨a0,a1⟩,⟨b0,b1⟩,⟨c0,c1⟩,⟨d0,d1⟩,⟨e0,e1⟩,⟨f0,f1⟩,⟨g0,g1⟩⟩:=h;obtain ⟨ty,fl,ot,va,fi,me,al⟩:=s;simp only at a0 a1 b0 b1 c0 c1 d0 d1 e0 e1 f0 f1 g0 g1 HC1 HC2 HC3 HC4 HC5 HC6 HC7 HC8;clear hi hz0 hz1 hz2;have HBW:Hid (Below w.heap.size w (w.alloc (.cells #[.int .u32 ty,.int .u32 fl,.int .u64 ot,.int .u64 va,.int .u64 fi,.int .u64 me,.int .u64 al] 65))):=Lib.hid ((Below.refl _ _).alloc (Nat.le_refl _) _);have HK0:=Lib.hid (Blk.new w #[.int .u32 ty,.int .u32 fl,.int .u64 ot,.int .u64 va,.int .u64 fi,.int .u64 me,.int .u64 al] 65);generalize hS:(⟨ty,fl,ot,va,fi,me,al⟩:Sg)=S at HC1 HC2 HC3 HC4 HC5 HC6 HC7 HC8 HL0 HL1 HL2 HL3 HL4 HL5 HL6 HL7 HL8 HCAT⊢;rw [←hS];unfold Sg.val;simp only
 rw [hS];clear hS;have HQ:Hid (∀w',Below (w.heap.size+1) (w.alloc (.cells #[.int .u32 ty,.int .u32 fl,.int .u64 ot,.int .u64 va,.int .u64 fi,.int .u64 me,.int .u64 al] 65)) w'→Blk w' w.heap.size #[.int .u32 ty,.int .u32 fl,.int .u64 ot,.int .u64 va,.int .u64 fi,.int .u64 me,.int .u64 al] 65∧w.heap.size+1≤w'.heap.size):=Lib.hid (fun w' hb=>
  ⟨(Blk.new w _ _).below hb (Nat.lt_succ_self _),by have:=hb.size;simp at this;omega⟩)
 have ia0:∀w,(Instr.index 176 (.agg #[.int .u32 ty,.int .u32 fl]) (.int .i64 0)).run Tryz.prog w=.ok (.int .u32 ty) w:=fun _=>by kernel_rfl
 have ia1:∀w,(Instr.index 176 (.agg #[.int .u32 ty,.int .u32 fl]) (.int .i64 1)).run Tryz.prog w=.ok (.int .u32 fl) w:=fun _=>by kernel_rfl
 have ib0:∀w,(Instr.index 178 (.agg #[.int .u64 ot,.int .u64 va,.int .u64 va,.int .u64 fi,.int .u64 me,.int .u64 al]) (.int .i64 0)).run Tryz.prog w=.ok (.int .u64 ot) w:=fun _=>by kernel_rfl
 have ib1:∀w,(Instr.index 178 (.agg #[.int .u64 ot,.int .u64 va,.int .u64 va,.int .u64 fi,.int .u64 me,.int .u64 al]) (.int .i64 1)).run Tryz.prog w=.ok (.int .u64 va) w:=fun _=>by kernel_rfl
 have ib2:∀w,(Instr.index 178 (.agg #[.int .u64 ot,.int .u64 va,.int .u64 va,.int .u64 fi,.int .u64 me,.int .u64 al]) (.int .i64 2)).run Tryz.prog w=.ok (.int .u64 va) w:=fun _=>by kernel_rfl
 have ib3:∀w,(Instr.index 178 (.agg #[.int .u64 ot,.int .u64 va,.int .u64 va,.int .u64 fi,.int .u64 me,.int .u64 al]) (.int .i64 3)).run Tryz.prog w=.ok (.int .u64 fi) w:=fun _=>by kernel_rfl
 have ib4:∀w,(Instr.index 178 (.agg #[.int .u64 ot,.int .u64 va,.int .u64 va,.int .u64 fi,.int .u64 me,.int .u64 al]) (.int .i64 4)).run Tryz.prog w=.ok (.int .u64 me) w:=fun _=>by kernel_rfl
 have ib5:∀w,(Instr.index 178 (.agg #[.int .u64 ot,.int .u64 va,.int .u64 va,.int .u64 fi,.int .u64 me,.int .u64 al]) (.int .i64 5)).run Tryz.prog w=.ok (.int .u64 al) w:=fun _=>by kernel_rfl
 go_enter Tryz.func73,Tryz.ntmps73
 go_wp2_with (at_make;refine wpList_make_own _ rfl _ _ 22 rfl (w.heap.size+1) 5 i0 (.int .u8 0) 1 Tryz.underlying22 HI.out HZ0.out HZ1.out .i64 .i64 _ 56 rfl rfl rfl ?c1 ?c2 ?c3 ?_);case c1=>rw [HZ2.out];omega
 case c2=>unfold maxLen;omega
 case c3=>simp
 intro w1 hown hg;have hb1:Below (w.heap.size+1) (w.alloc (.cells #[.int .u32 ty,.int .u32 fl,.int .u64 ot,.int .u64 va,.int .u64 fi,.int .u64 me,.int .u64 al] 65)) w1:=(Below.refl _ _).grown hg (by simp) (fun _ e=>by cases e);obtain ⟨q0,q1,q2,q3,q4,q5,q6⟩:=(HQ.out _ hb1).1.c7;have HOWN:=Lib.hid hown;have HB1:=Lib.hid hb1;clear hown hg hb1;go_wp2;go_loopw [3,5,14] (fun v _ i wr=>∃k:Nat,k≤2∧i=.int .i64 k∧wr.ownsRow (w.heap.size+1) 5 1 v (catS S k).length ((catS S k).map (Value.int .u8))∧Below (w.heap.size+1) (w.alloc (.cells #[.int .u32 ty,.int .u32 fl,.int .u64 ot,.int .u64 va,.int .u64 fi,.int .u64 me,.int .u64 al] 65)) wr) (fun _ _ i _=>2-(intOf i).toNat)
 case atStart=>exact ⟨0,by decide,rfl,HOWN.out,HB1.out⟩
 case round=>
  obtain ⟨k,hk,rfl,hown,hbel⟩:=hrel;obtain rfl | rfl | rfl:k=0∨k=1∨k=2:=by omega
  ·have HOW:=Lib.hid hown;have HBE:=Lib.hid hbel;clear hown hbel;go_wp2_with fail;refine (k4_number_ok ty 4 _ (by decide) (by omega) (by omega)).mono ?_;rintro r w2 ⟨⟨u,rfl,g,c,rfl,_,_,hm⟩,hb2⟩;rw [digs_len] at hm⊢;have HM:=Lib.hid hm;have HB3:=Lib.hid (HBE.out.trans (hb2.mono (HQ.out _ HBE.out).2));have HO2:=Lib.hid (own_below HOW.out hb2);clear hm hb2;go_wp2_with (at_builtin;refine wpList_append_bys rfl _ _ 22 rfl (w.heap.size+1) 5 i0 (.int .u8 0) 1 Tryz.underlying22 HI.out HZ0.out HZ1.out HZ2.out rfl _ (catS S 0).length _ rfl HO2.out _ 4 c _ (digs ty 4) rfl HM.out (fun h=>by cases h) ?d0a ?d0b ?d0c ?_);case d0a=>rw [HL0.out];unfold maxLen;omega
   case d0b=>rw [HL0.out];omega
   case d0c=>exact (HQ.out _ HB3.out).2
   intro v3 w3 hown3 hg3;have hb4:=HB3.out.grown hg3 (HQ.out _ HB3.out).2 (fun q e=>(HO2.out.lt q e).1);have HO3:Hid (w3.ownsRow (w.heap.size+1) 5 1 v3 (catS S 1).length ((catS S 1).map (Value.int .u8))):=Lib.hid (by
    rw [←HC1.out,List.length_append,digs_len,List.map_append];exact hown3)
   clear hown3 hg3;go_wp2;go_roundw
   case rel=>exact ⟨1,by decide,by go_num,HO3.out,hb4⟩
   case measure=>(simp [intOf]<;>omega)
  ·have HOW:=Lib.hid hown;have HBE:=Lib.hid hbel;clear hown hbel;go_wp2_with fail;refine (k4_number_ok fl 4 _ (by decide) (by omega) (by omega)).mono ?_;rintro r w2 ⟨⟨u,rfl,g,c,rfl,_,_,hm⟩,hb2⟩;rw [digs_len] at hm⊢;have HM:=Lib.hid hm;have HB3:=Lib.hid (HBE.out.trans (hb2.mono (HQ.out _ HBE.out).2));have HO2:=Lib.hid (own_below HOW.out hb2);clear hm hb2;go_wp2_with (at_builtin;refine wpList_append_bys rfl _ _ 22 rfl (w.heap.size+1) 5 i0 (.int .u8 0) 1 Tryz.underlying22 HI.out HZ0.out HZ1.out HZ2.out rfl _ (catS S 1).length _ rfl HO2.out _ 4 c _ (digs fl 4) rfl HM.out (fun h=>by cases h) ?d1a ?d1b ?d1c ?_);case d1a=>rw [HL1.out];unfold maxLen;omega
   case d1b=>rw [HL1.out];omega
   case d1c=>exact (HQ.out _ HB3.out).2
   intro v3 w3 hown3 hg3;have hb4:=HB3.out.grown hg3 (HQ.out _ HB3.out).2 (fun q e=>(HO2.out.lt q e).1);have HO3:Hid (w3.ownsRow (w.heap.size+1) 5 1 v3 (catS S 2).length ((catS S 2).map (Value.int .u8))):=Lib.hid (by
    rw [←HC2.out,List.length_append,digs_len,List.map_append];exact hown3)
   clear hown3 hg3;go_wp2;go_roundw
   case rel=>exact ⟨2,by decide,by go_num,HO3.out,hb4⟩
   case measure=>(simp [intOf]<;>omega)
  ·rw [show ((2:Nat):Int)=2 from rfl];obtain ⟨q0,q1,q2,q3,q4,q5,q6⟩:=(HQ.out _ hbel).1.c7;have HOW:=Lib.hid hown;have HBE:=Lib.hid hbel;clear hown hbel;go_wp2;go_loopw [3,7,36] (fun v _ i wr=>∃k:Nat,k≤6∧i=.int .i64 k∧wr.ownsRow (w.heap.size+1) 5 1 v (catS S (2+k)).length ((catS S (2+k)).map (Value.int .u8))∧Below (w.heap.size+1) (w.alloc (.cells #[.int .u32 ty,.int .u32 fl,.int .u64 ot,.int .u64 va,.int .u64 fi,.int .u64 me,.int .u64 al] 65)) wr) (fun _ _ i _=>6-(intOf i).toNat)
   case atStart=>exact ⟨0,by decide,rfl,HOW.out,HBE.out⟩
   case round=>
    obtain ⟨k,hk,rfl,hown,hbel⟩:=hrel;obtain rfl | rfl | rfl | rfl | rfl | rfl | rfl:k=0∨k=1∨k=2∨k=3∨k=4∨k=5∨k=6:=by omega
    ·have HOW:=Lib.hid hown;have HBE:=Lib.hid hbel;clear hown hbel;go_wp2_with fail;refine (k4_number_ok ot 8 _ (by decide) (by omega) (by omega)).mono ?_;rintro r w2 ⟨⟨u,rfl,g,c,rfl,_,_,hm⟩,hb2⟩;rw [digs_len] at hm⊢;have HM:=Lib.hid hm;have HB3:=Lib.hid (HBE.out.trans (hb2.mono (HQ.out _ HBE.out).2));have HO2:=Lib.hid (own_below HOW.out hb2);clear hm hb2;go_wp2_with (at_builtin;refine wpList_append_bys rfl _ _ 22 rfl (w.heap.size+1) 5 i0 (.int .u8 0) 1 Tryz.underlying22 HI.out HZ0.out HZ1.out HZ2.out rfl _ (catS S 2).length _ rfl HO2.out _ 8 c _ (digs ot 8) rfl HM.out (fun h=>by cases h) ?d2a ?d2b ?d2c ?_);case d2a=>rw [HL2.out];unfold maxLen;omega
     case d2b=>rw [HL2.out];omega
     case d2c=>exact (HQ.out _ HB3.out).2
     intro v3 w3 hown3 hg3;have hb4:=HB3.out.grown hg3 (HQ.out _ HB3.out).2 (fun q e=>(HO2.out.lt q e).1);have HO3:Hid (w3.ownsRow (w.heap.size+1) 5 1 v3 (catS S 3).length ((catS S 3).map (Value.int .u8))):=Lib.hid (by
      rw [←HC3.out,List.length_append,digs_len,List.map_append];exact hown3)
     clear hown3 hg3;go_wp2;go_roundw
     case rel=>exact ⟨1,by decide,by go_num,HO3.out,hb4⟩
     case measure=>(simp [intOf]<;>omega)
    ·have HOW:=Lib.hid hown;have HBE:=Lib.hid hbel;clear hown hbel;go_wp2_with fail;refine (k4_number_ok va 8 _ (by decide) (by omega) (by omega)).mono ?_;rintro r w2 ⟨⟨u,rfl,g,c,rfl,_,_,hm⟩,hb2⟩;rw [digs_len] at hm⊢;have HM:=Lib.hid hm;have HB3:=Lib.hid (HBE.out.trans (hb2.mono (HQ.out _ HBE.out).2));have HO2:=Lib.hid (own_below HOW.out hb2);clear hm hb2;go_wp2_with (at_builtin;refine wpList_append_bys rfl _ _ 22 rfl (w.heap.size+1) 5 i0 (.int .u8 0) 1 Tryz.underlying22 HI.out HZ0.out HZ1.out HZ2.out rfl _ (catS S 3).length _ rfl HO2.out _ 8 c _ (digs va 8) rfl HM.out (fun h=>by cases h) ?d3a ?d3b ?d3c ?_);case d3a=>rw [HL3.out];unfold maxLen;omega
     case d3b=>rw [HL3.out];omega
     case d3c=>exact (HQ.out _ HB3.out).2
     intro v3 w3 hown3 hg3;have hb4:=HB3.out.grown hg3 (HQ.out _ HB3.out).2 (fun q e=>(HO2.out.lt q e).1);have HO3:Hid (w3.ownsRow (w.heap.size+1) 5 1 v3 (catS S 4).length ((catS S 4).map (Value.int .u8))):=Lib.hid (by
      rw [←HC4.out,List.length_append,digs_len,List.map_append];exact hown3)
     clear hown3 hg3;go_wp2;go_roundw
     case rel=>exact ⟨2,by decide,by go_num,HO3.out,hb4⟩
     case measure=>(simp [intOf]<;>omega)
    ·have HOW:=Lib.hid hown;have HBE:=Lib.hid hbel;clear hown hbel;go_wp2_with fail;refine (k4_number_ok va 8 _ (by decide) (by omega) (by omega)).mono ?_;rintro r w2 ⟨⟨u,rfl,g,c,rfl,_,_,hm⟩,hb2⟩;rw [digs_len] at hm⊢;have HM:=Lib.hid hm;have HB3:=Lib.hid (HBE.out.trans (hb2.mono (HQ.out _ HBE.out).2));have HO2:=Lib.hid (own_below HOW.out hb2);clear hm hb2;go_wp2_with (at_builtin;refine wpList_append_bys rfl _ _ 22 rfl (w.heap.size+1) 5 i0 (.int .u8 0) 1 Tryz.underlying22 HI.out HZ0.out HZ1.out HZ2.out rfl _ (catS S 4).length _ rfl HO2.out _ 8 c _ (digs va 8) rfl HM.out (fun h=>by cases h) ?d4a ?d4b ?d4c ?_);case d4a=>rw [HL4.out];unfold maxLen;omega
     case d4b=>rw [HL4.out];omega
     case d4c=>exact (HQ.out _ HB3.out).2
     intro v3 w3 hown3 hg3;have hb4:=HB3.out.grown hg3 (HQ.out _ HB3.out).2 (fun q e=>(HO2.out.lt q e).1);have HO3:Hid (w3.ownsRow (w.heap.size+1) 5 1 v3 (catS S 5).length ((catS S 5).map (Value.int .u8))):=Lib.hid (by
      rw [←HC5.out,List.length_append,digs_len,List.map_append];exact hown3)
     clear hown3 hg3;go_wp2;go_roundw
     case rel=>exact ⟨3,by decide,by go_num,HO3.out,hb4⟩
     case measure=>(simp [intOf]<;>omega)
    ·have HOW:=Lib.hid hown;have HBE:=Lib.hid hbel;clear hown hbel;go_wp2_with fail;refine (k4_number_ok fi 8 _ (by decide) (by omega) (by omega)).mono ?_;rintro r w2 ⟨⟨u,rfl,g,c,rfl,_,_,hm⟩,hb2⟩;rw [digs_len] at hm⊢;have HM:=Lib.hid hm;have HB3:=Lib.hid (HBE.out.trans (hb2.mono (HQ.out _ HBE.out).2));have HO2:=Lib.hid (own_below HOW.out hb2);clear hm hb2;go_wp2_with (at_builtin;refine wpList_append_bys rfl _ _ 22 rfl (w.heap.size+1) 5 i0 (.int .u8 0) 1 Tryz.underlying22 HI.out HZ0.out HZ1.out HZ2.out rfl _ (catS S 5).length _ rfl HO2.out _ 8 c _ (digs fi 8) rfl HM.out (fun h=>by cases h) ?d5a ?d5b ?d5c ?_);case d5a=>rw [HL5.out];unfold maxLen;omega
     case d5b=>rw [HL5.out];omega
     case d5c=>exact (HQ.out _ HB3.out).2
     intro v3 w3 hown3 hg3;have hb4:=HB3.out.grown hg3 (HQ.out _ HB3.out).2 (fun q e=>(HO2.out.lt q e).1);have HO3:Hid (w3.ownsRow (w.heap.size+1) 5 1 v3 (catS S 6).length ((catS S 6).map (Value.int .u8))):=Lib.hid (by
      rw [←HC6.out,List.length_append,digs_len,List.map_append];exact hown3)
     clear hown3 hg3;go_wp2;go_roundw
     case rel=>exact ⟨4,by decide,by go_num,HO3.out,hb4⟩
     case measure=>(simp [intOf]<;>omega)
    ·have HOW:=Lib.hid hown;have HBE:=Lib.hid hbel;clear hown hbel;go_wp2_with fail;refine (k4_number_ok me 8 _ (by decide) (by omega) (by omega)).mono ?_;rintro r w2 ⟨⟨u,rfl,g,c,rfl,_,_,hm⟩,hb2⟩;rw [digs_len] at hm⊢;have HM:=Lib.hid hm;have HB3:=Lib.hid (HBE.out.trans (hb2.mono (HQ.out _ HBE.out).2));have HO2:=Lib.hid (own_below HOW.out hb2);clear hm hb2;go_wp2_with (at_builtin;refine wpList_append_bys rfl _ _ 22 rfl (w.heap.size+1) 5 i0 (.int .u8 0) 1 Tryz.underlying22 HI.out HZ0.out HZ1.out HZ2.out rfl _ (catS S 6).length _ rfl HO2.out _ 8 c _ (digs me 8) rfl HM.out (fun h=>by cases h) ?d6a ?d6b ?d6c ?_);case d6a=>rw [HL6.out];unfold maxLen;omega
     case d6b=>rw [HL6.out];omega
     case d6c=>exact (HQ.out _ HB3.out).2
     intro v3 w3 hown3 hg3;have hb4:=HB3.out.grown hg3 (HQ.out _ HB3.out).2 (fun q e=>(HO2.out.lt q e).1);have HO3:Hid (w3.ownsRow (w.heap.size+1) 5 1 v3 (catS S 7).length ((catS S 7).map (Value.int .u8))):=Lib.hid (by
      rw [←HC7.out,List.length_append,digs_len,List.map_append];exact hown3)
     clear hown3 hg3;go_wp2;go_roundw
     case rel=>exact ⟨5,by decide,by go_num,HO3.out,hb4⟩
     case measure=>(simp [intOf]<;>omega)
    ·have HOW:=Lib.hid hown;have HBE:=Lib.hid hbel;clear hown hbel;go_wp2_with fail;refine (k4_number_ok al 8 _ (by decide) (by omega) (by omega)).mono ?_;rintro r w2 ⟨⟨u,rfl,g,c,rfl,_,_,hm⟩,hb2⟩;rw [digs_len] at hm⊢;have HM:=Lib.hid hm;have HB3:=Lib.hid (HBE.out.trans (hb2.mono (HQ.out _ HBE.out).2));have HO2:=Lib.hid (own_below HOW.out hb2);clear hm hb2;go_wp2_with (at_builtin;refine wpList_append_bys rfl _ _ 22 rfl (w.heap.size+1) 5 i0 (.int .u8 0) 1 Tryz.underlying22 HI.out HZ0.out HZ1.out HZ2.out rfl _ (catS S 7).length _ rfl HO2.out _ 8 c _ (digs al 8) rfl HM.out (fun h=>by cases h) ?d7a ?d7b ?d7c ?_);case d7a=>rw [HL7.out];unfold maxLen;omega
     case d7b=>rw [HL7.out];omega
     case d7c=>exact (HQ.out _ HB3.out).2
     intro v3 w3 hown3 hg3;have hb4:=HB3.out.grown hg3 (HQ.out _ HB3.out).2 (fun q e=>(HO2.out.lt q e).1);have HO3:Hid (w3.ownsRow (w.heap.size+1) 5 1 v3 (catS S 8).length ((catS S 8).map (Value.int .u8))):=Lib.hid (by
      rw [←HC8.out,List.length_append,digs_len,List.map_append];exact hown3)
     clear hown3 hg3;go_wp2;go_roundw
     case rel=>exact ⟨6,by decide,by go_num,HO3.out,hb4⟩
     case measure=>(simp [intOf]<;>omega)
    ·have HOF:Hid (wr.ownsRow (w.heap.size+1) 5 1 _ (catS S 8).length ((catS S 8).map (Value.int .u8))):=Lib.hid hown;have HBF:=Lib.hid hbel;clear hown hbel;go_wp2;go_ret;refine ⟨⟨_,rfl,?_⟩,HBW.out.trans (HBF.out.mono (Nat.le_succ _))⟩;have:=own_base HOF.out (Nat.le_succ w.heap.size);rw [HL8.out,HCAT.out] at this;exact this
theorem k4_put_ok (s:Sg) (w:World) (h:s.Ok) :
 Calls Tryz.prog 73 #[s.val] w fun r w'=>(∃u,r=.returned u∧k4_Made (encS s) u w')∧Below w.heap.size w w':=by
 refine (k4_put_own s w h).mono ?_;rintro r w' ⟨⟨u,rfl,ho⟩,hb⟩;exact ⟨⟨u,rfl,k4_own_made (by rw [encS_len];exact ho) (by rw [encS_len];decide) (encS_bd s)⟩,hb⟩
theorem k6_cells_new (w:World) (L:List Value) (t:TypeId) (g:Nat) (hg:g=w.heap.size):∀(j:Nat) (u:Value),L[j]?=some u→(w.alloc (.cells L.toArray t)).cell? ((⟨g,0,none⟩:Addr).add j)=some u:=by
 intro j u hj;subst hg;rw [add_none,Nat.zero_add,(Blk.new w _ _).cell];simpa using hj
theorem info_sym:(Tryz.prog.info? 76).map (fun i=>(i.zero,i.size,i.bytes))=some (some (.agg #[.int .u32 0,.int .u8 0,.int .u8 0,.int .u16 0,.int .u64 0,.int .u64 0]),6,24):=by kernel_rfl
theorem k6_one_cells (s:Sy):∀u∈[Value.int .u32 s.na,.int .u8 s.inf,.int .u8 s.ot,.int .u16 s.se,.int .u64 s.va,.int .u64 s.si],u.oneCell'=true:=by
 intro u hu;simp only [List.mem_cons,List.not_mem_nil,or_false] at hu;rcases hu with rfl | rfl | rfl | rfl | rfl | rfl<;>rfl
theorem k6_ret_i64 {a b:Int} (h:a=b):Ending.returned (.int .i64 a)=.returned (.int .i64 b):=by rw [h]
def k6_Made (zs:List Int) (u:Value) (w:World):Prop:=∃g c,u=.slice (some ⟨g,0,none⟩) zs.length c∧zs.length≤c∧(c:Int)≤9223372036854775807∧Bys w w.heap.size (some ⟨g,0,none⟩) zs.length zs
theorem k6_own_made {w:World} {base:Nat} {u:Value} {zs:List Int} (h:w.ownsRow base 5 1 u zs.length (zs.map (Value.int .u8))) (h0:0<zs.length) (hz:∀n∈zs,0≤n∧n≤255):k6_Made zs u w:=by
 obtain ⟨g,c,rfl,_⟩:=own_some h h0;have hcap:zs.length≤c∧c≤maxLen:=by
  rcases h.2 with ⟨hx,_⟩ | ⟨g,c,cur,hx,_,_,h3,h4,_⟩
  ·cases hx
  ·injection hx with _ _ hx;subst hx;exact ⟨h3,h4⟩
 exact ⟨g,c,rfl,hcap.1,by have:=hcap.2;unfold maxLen at this;omega,Bys.own hz h⟩
theorem k6_setB_fill {A:List Int} {m p k:Nat} (x:Int) (hp:A.length=p):setB (A++List.replicate m 0) p x k=(A++digs x k)++List.replicate (m-k) 0:=by
 subst hp;unfold setB;rw [List.take_left,List.drop_append];rw [List.drop_eq_nil_of_le (by omega),List.nil_append,Nat.add_sub_cancel_left,List.drop_replicate,List.append_assoc]
structure Wr (w:World) (base gb ga:Nat) (A:List Int):Prop where
 box:∃h,Blk w gb #[.slice (some ⟨h,0,none⟩) 24 24] 22∧h≠gb∧h≠ga∧w.ownsRow base 5 1 (.slice (some ⟨h,0,none⟩) 24 24) 24 ((A++List.replicate (24-A.length) 0).map (Value.int .u8))
 at':Blk w ga #[.int .u64 A.length] 24
 bd:∀n∈A,0≤n∧n≤255
 le:A.length≤24
theorem write_ok (base gb ga:Nat) (A:List Int) (x:Int) (n:Nat) (w:World) (h:Wr w base gb ga A) (hb0:base≤gb) (ha0:base≤ga) (hne:gb≠ga) (hn:n=1∨n=2∨n=4∨n=8) (hs:A.length+n≤24) (x0:0≤x) (x1:x≤18446744073709551615) :
 Calls Tryz.prog 128 #[.int .u64 x,.int .i64 n,.pointer (some ⟨gb,0,none⟩),.pointer (some ⟨ga,0,none⟩)] w fun r w'=>r=.returned (.tuple #[])∧Wr w' base gb ga (A++digs x n)∧Below base w w':=by
 obtain ⟨⟨g,hbox,hg1,hg2,hown⟩,hat,hbd,hle⟩:=h;have hbd2:∀n∈A++List.replicate (24-A.length) 0,0≤n∧n≤255:=by
  intro n hn;rcases List.mem_append.1 hn with h1 | h1
  ·exact hbd n h1
  ·rw [List.eq_of_mem_replicate h1];decide
 have hlb:=hbox.lt;have hla:=hat.lt;have hset:=set_ok w.heap.size (some ⟨g,0,none⟩) 24 24 _ A.length n x w (Bys.own hbd2 hown) (Nat.le_refl _) hn (by decide) hs x0 x1;rw [k6_setB_fill x rfl] at hset;have HS:=Lib.hid hset;have HBX:=Lib.hid hbox;have HAT:=Lib.hid hat;have HBD:Hid (∀m∈A++digs x n,0≤m∧m≤255):=Lib.hid (by
  intro m hm;rcases List.mem_append.1 hm with h1 | h1
  ·exact hbd m h1
  ·exact digs_bd x n m h1)
 have HL:Hid ((A++digs x n).length=A.length+n):=Lib.hid (by rw [List.length_append,digs_len]);have hn8:(n:Int)≤8:=by omega
 have hAl:(A.length:Int)≤24:=by omega
 have hc1:=hbox.cell 0;have hc2:=hat.cell 0;have HNE:=Lib.hid hne;generalize A.length=p at *;clear hset hbox hat hown hbd hbd2 hn;go_enter Tryz.func128,Tryz.ntmps128
 go_wp2_with fail;refine HS.out.mono ?_;rintro r w1 ⟨rfl,hown,hbel⟩;have hbx1:=HBX.out.below hbel hlb;have hat1:=HAT.out.below hbel hla;have hsz:=hbel.size;have c1:w1.cell? ⟨gb,0,none⟩=some (.slice (some ⟨g,0,none⟩) 24 24):=hbx1.cell 0;have f1:w1.frozen? ⟨gb,0,none⟩=false:=hbx1.frozen 0;have hbx2:=hbx1.set 0 (.slice (some ⟨w.heap.size,0,none⟩) 24 24);have hat2:=hat1.setOther (a:=⟨gb,0,none⟩) (Ne.symm HNE.out) (.slice (some ⟨w.heap.size,0,none⟩) 24 24);have hown2:=ownsRow_setCell_below hown (a:=⟨gb,0,none⟩) hlb (.slice (some ⟨w.heap.size,0,none⟩) 24 24);have hb2:Below base w (w1.setCell ⟨gb,0,none⟩ (.slice (some ⟨w.heap.size,0,none⟩) 24 24)):=(hbel.mono (by omega)).setCell hb0 _;have c3:(w1.setCell ⟨gb,0,none⟩ (.slice (some ⟨w.heap.size,0,none⟩) 24 24)).cell? ⟨ga,0,none⟩=some (.int .u64 p):=hat2.cell 0;have f3:(w1.setCell ⟨gb,0,none⟩ (.slice (some ⟨w.heap.size,0,none⟩) 24 24)).frozen? ⟨ga,0,none⟩=false:=hat2.frozen 0;have hbx3:=hbx2.setOther (a:=⟨ga,0,none⟩) HNE.out (.int .u64 ((p:Int)+n));have hat3:=hat2.set 0 (.int .u64 ((p:Int)+n));have hown3:=ownsRow_setCell_below hown2 (a:=⟨ga,0,none⟩) hla (.int .u64 ((p:Int)+n));have hb3:=hb2.setCell (p:=⟨ga,0,none⟩) ha0 (.int .u64 ((p:Int)+n));have HX:=Lib.hid hbx3;have HA:=Lib.hid hat3;have HO:=Lib.hid hown3;have HB:=Lib.hid hb3;clear hbx3 hat3 hown3 hb3 hbx2 hat2 hown2 hb2 hbx1 hat1 hown hbel;go_wp2;go_end0
 refine ⟨rfl,⟨⟨w.heap.size,HX.out,by omega,by omega,?_⟩,?_,HBD.out,by rw [HL.out];exact hs⟩,HB.out⟩
 ·have e:(24-(A++digs x n).length)=24-p-n:=by rw [HL.out];omega
  rw [e];exact own_base HO.out (by omega)
 ·have e:((A++digs x n).length:Int)=(p:Int)+n:=by rw [HL.out];omega
  rw [e];exact HA.out
theorem digs_one {x:Int} (h0:0≤x) (h1:x≤255):digs x 1=[x]:=by
 have:x % 256=x:=by omega
 simp [digs,this]
theorem encY_parts {na inf ot se va si:Int} (b0:0≤inf) (b1:inf≤255) (c0:0≤ot) (c1:ot≤255) :
 []++digs na 4++digs inf 1++digs ot 1++digs se 2++digs va 8++digs si 8=encY ⟨na,inf,ot,se,va,si⟩:=by
 rw [digs_one b0 b1,digs_one c0 c1];simp [encY]
theorem sput_ok (s:Sy) (w:World) (h:s.Ok) :
 Calls Tryz.prog 76 #[s.val] w fun r w'=>(∃u,r=.returned u∧k6_Made (encY s) u w')∧Below w.heap.size w w':=by
 obtain ⟨i0,hi,hz0,hz1,hz2⟩:=info_parts info_u8;have HI:=Lib.hid hi;have HZ0:=Lib.hid hz0;have HZ1:=Lib.hid hz1;have HZ2:=Lib.hid hz2;have HEL:=Lib.hid (encY_len s);have HEB:=Lib.hid (encY_bd h);obtain ⟨⟨a0,a1⟩,⟨b0,b1⟩,⟨c0,c1⟩,⟨d0,d1⟩,⟨e0,e1⟩,⟨f0,f1⟩⟩:=h;obtain ⟨na,inf,ot,se,va,si⟩:=s;simp only at a0 a1 b0 b1 c0 c1 d0 d1 e0 e1 f0 f1;have HP:=Lib.hid (encY_parts (na:=na) (se:=se) (va:=va) (si:=si) b0 b1 c0 c1);generalize encY ⟨na,inf,ot,se,va,si⟩=zs at HEL HEB HP⊢;clear hi hz0 hz1 hz2;unfold Sy.val;simp only
 go_enter Tryz.func76,Tryz.ntmps76
 go_wp2_with (at_make;refine wpList_make_full _ rfl _ _ 22 rfl (w.heap.size+1) 5 i0 (.int .u8 0) 1 Tryz.underlying22 HI.out HZ0.out HZ1.out .i64 .i64 _ _ 24 rfl rfl rfl rfl ?c1 ?c2 ?c3 ?_);case c1=>rw [HZ2.out];omega
 case c2=>unfold maxLen;omega
 case c3=>simp
 intro w1 hown hg;have hb1:Below w.heap.size w w1:=((Below.refl _ _).alloc (Nat.le_refl _) _).grown hg (by simp) (fun _ e=>by cases e);have hbox:=Sy.cs ((Blk.new w #[.int .u32 na,.int .u8 inf,.int .u8 ot,.int .u16 se,.int .u64 va,.int .u64 si] 76).grown hg (by simp));obtain ⟨q0,q1,q2,q3,q4,q5⟩:=hbox;have hsz1:w.heap.size+1<w1.heap.size:=by
  obtain ⟨-,⟨hv,_⟩ | ⟨g',cap,cur,hv,_,hgg,_⟩⟩:=hown
  ·cases hv
  ·injection hv with hv _ _;injection hv with hv;injection hv with hv;rw [←hv] at hgg;exact (Array.getElem?_eq_some_iff.1 hgg).1
 have hlt:w.heap.size<w1.heap.size:=by omega
 have Q0:∀o o',((w1.alloc o).alloc o').cell? ⟨w.heap.size,0,none⟩=some (.int .u32 na):=fun o o'=>by rw [World.cell?_alloc_past _ _ _ (by simp;omega),World.cell?_alloc_past _ _ _ (by simpa using hlt)];exact q0
 have HQ:Hid (∀w',Below (w.heap.size+1) w1 w'→w'.cell? ⟨w.heap.size,1,none⟩=some (.int .u8 inf)∧w'.cell? ⟨w.heap.size,2,none⟩=some (.int .u8 ot)∧w'.cell? ⟨w.heap.size,3,none⟩=some (.int .u16 se)∧w'.cell? ⟨w.heap.size,4,none⟩=some (.int .u64 va)∧w'.cell? ⟨w.heap.size,5,none⟩=some (.int .u64 si)):=Lib.hid (fun w' h=>⟨(h.cell (Nat.lt_succ_self _)).trans q1,(h.cell (Nat.lt_succ_self _)).trans q2,(h.cell (Nat.lt_succ_self _)).trans q3,(h.cell (Nat.lt_succ_self _)).trans q4,(h.cell (Nat.lt_succ_self _)).trans q5⟩);have hne:w1.heap.size≠w1.heap.size+1:=by omega
 have HW0:Hid (Wr ((w1.alloc (.cells #[.slice (some ⟨w.heap.size+1,0,none⟩) 24 24] 22)).alloc (.cells #[.int .u64 0] 24)) (w.heap.size+1) w1.heap.size (w1.heap.size+1) []):=Lib.hid (by
  rw [toList_madeCells_one] at hown;refine ⟨⟨w.heap.size+1,(Blk.new w1 _ _).alloc _,by omega,by omega,?_⟩,?_,fun n hn=>(by cases hn),by decide⟩
  ·have e:([]++List.replicate (24-([]:List Int).length) (0:Int)).map (Value.int .u8)=List.replicate 24 (.int .u8 0):=by simp
   rw [e];exact (hown.alloc _).alloc _
  ·have:=Blk.new (w1.alloc (.cells #[.slice (some ⟨w.heap.size+1,0,none⟩) 24 24] 22)) #[.int .u64 0] 24;rw [World.size_alloc] at this;exact this)
 have HB1:Hid (∀o o',Below (w.heap.size+1) w1 ((w1.alloc o).alloc o')):=Lib.hid (fun o o'=>((Below.refl _ _).alloc (by omega) _).alloc (by simp;omega) _);have HBW:=Lib.hid hb1;clear hown hg hb1 q0 q1 q2 q3 q4 q5;go_wp2_with fail;refine (write_ok (w.heap.size+1) w1.heap.size (w1.heap.size+1) _ na 4 _ HW0.out (by omega) (by omega) hne (by decide) (by decide) a0 (by omega)).mono ?_;rintro r2 w2 ⟨rfl,hw,hb⟩;have HW2:=Lib.hid hw;have HB2:=Lib.hid (Below.trans (HB1.out _ _) hb);have hl1:Hid (([]++digs na 4:List Int).length=4):=Lib.hid (by simp [digs_len]);have hq:=(HQ.out _ HB2.out).1;clear hw hb;go_wp2_with fail;refine (write_ok (w.heap.size+1) w1.heap.size (w1.heap.size+1) _ inf 1 _ HW2.out (by omega) (by omega) hne (by decide) (by rw [hl1.out];decide) b0 (by omega)).mono ?_;rintro r3 w3 ⟨rfl,hw,hb⟩;have HW3:=Lib.hid hw;have HB3:=Lib.hid (Below.trans HB2.out hb);have hl2:Hid (([]++digs na 4++digs inf 1:List Int).length=5):=Lib.hid (by simp [digs_len]);have hq:=(HQ.out _ HB3.out).2.1;clear hw hb;go_wp2_with fail;refine (write_ok (w.heap.size+1) w1.heap.size (w1.heap.size+1) _ ot 1 _ HW3.out (by omega) (by omega) hne (by decide) (by rw [hl2.out];decide) c0 (by omega)).mono ?_;rintro r4 w4 ⟨rfl,hw,hb⟩;have HW4:=Lib.hid hw;have HB4:=Lib.hid (Below.trans HB3.out hb);have hl3:Hid (([]++digs na 4++digs inf 1++digs ot 1:List Int).length=6):=Lib.hid (by simp [digs_len]);have hq:=(HQ.out _ HB4.out).2.2.1;clear hw hb;go_wp2_with fail;refine (write_ok (w.heap.size+1) w1.heap.size (w1.heap.size+1) _ se 2 _ HW4.out (by omega) (by omega) hne (by decide) (by rw [hl3.out];decide) d0 (by omega)).mono ?_;rintro r5 w5 ⟨rfl,hw,hb⟩;have HW5:=Lib.hid hw;have HB5:=Lib.hid (Below.trans HB4.out hb);have hl4:Hid (([]++digs na 4++digs inf 1++digs ot 1++digs se 2:List Int).length=8):=Lib.hid (by simp [digs_len]);have hq:=(HQ.out _ HB5.out).2.2.2.1;clear hw hb;go_wp2_with fail;refine (write_ok (w.heap.size+1) w1.heap.size (w1.heap.size+1) _ va 8 _ HW5.out (by omega) (by omega) hne (by decide) (by rw [hl4.out];decide) e0 (by omega)).mono ?_;rintro r6 w6 ⟨rfl,hw,hb⟩;have HW6:=Lib.hid hw;have HB6:=Lib.hid (Below.trans HB5.out hb);have hl5:Hid (([]++digs na 4++digs inf 1++digs ot 1++digs se 2++digs va 8:List Int).length=16):=Lib.hid (by simp [digs_len]);have hq:=(HQ.out _ HB6.out).2.2.2.2;clear hw hb;go_wp2_with fail;refine (write_ok (w.heap.size+1) w1.heap.size (w1.heap.size+1) _ si 8 _ HW6.out (by omega) (by omega) hne (by decide) (by rw [hl5.out];decide) f0 (by omega)).mono ?_;rintro r7 w7 ⟨rfl,hw,hb⟩;have HW7:=Lib.hid hw;have HB7:=Lib.hid (Below.trans HB6.out hb);have hl6:Hid (([]++digs na 4++digs inf 1++digs ot 1++digs se 2++digs va 8++digs si 8:List Int).length=24):=Lib.hid (by simp [digs_len]);clear hw hb;obtain ⟨⟨g,hx,-,-,hown⟩,-,-,-⟩:=HW7.out;rw [HP.out,HEL.out,Nat.sub_self,List.replicate_zero,List.append_nil] at hown;have hx0:w7.cell? ⟨w1.heap.size,0,none⟩=some (.slice (some ⟨g,0,none⟩) 24 24):=hx.cell 0;have HO:=Lib.hid hown;clear hown hx;go_wp2;go_ret;exact ⟨⟨_,rfl,k6_own_made (by rw [HEL.out];exact HO.out) (by rw [HEL.out];decide) HEB.out⟩,HBW.out.trans (HB7.out.mono (by omega))⟩
theorem k7_ret_i64 {a b:Int} (h:a=b):Ending.returned (.int .i64 a)=.returned (.int .i64 b):=by rw [h]
theorem info_rel:(Tryz.prog.info? 78).map (fun i=>(i.zero,i.size,i.bytes))=some (some (.agg #[.int .u64 0,.int .u32 0,.int .u32 0,.int .i64 0]),4,24):=by kernel_rfl
theorem k7_one_cells (s:Rl):∀u∈[Value.int .u64 s.of,.int .u32 s.ty,.int .u32 s.sy,.int .i64 s.ad],u.oneCell'=true:=by
 intro u hu;simp only [List.mem_cons,List.not_mem_nil,or_false] at hu;rcases hu with rfl | rfl | rfl | rfl<;>rfl
theorem k7_cells_new (w:World) (L:List Value) (t:TypeId) (g:Nat) (hg:g=w.heap.size):∀(j:Nat) (u:Value),L[j]?=some u→(w.alloc (.cells L.toArray t)).cell? ((⟨g,0,none⟩:Addr).add j)=some u:=by
 intro j u hj;subst hg;rw [add_none,Nat.zero_add,(Blk.new w _ _).cell];simpa using hj

def k7_Made (zs:List Int) (u:Value) (w:World):Prop:=∃g c,u=.slice (some ⟨g,0,none⟩) zs.length c∧zs.length≤c∧(c:Int)≤9223372036854775807∧Bys w w.heap.size (some ⟨g,0,none⟩) zs.length zs
theorem k7_own_made {w:World} {base:Nat} {u:Value} {zs:List Int} (h:w.ownsRow base 5 1 u zs.length (zs.map (Value.int .u8))) (h0:0<zs.length) (hz:∀n∈zs,0≤n∧n≤255):k7_Made zs u w:=by
 obtain ⟨g,c,rfl,_⟩:=own_some h h0;have hcap:zs.length≤c∧c≤maxLen:=by
  rcases h.2 with ⟨hx,_⟩ | ⟨g,c,cur,hx,_,_,h3,h4,_⟩
  ·cases hx
  ·injection hx with _ _ hx;subst hx;exact ⟨h3,h4⟩
 exact ⟨g,c,rfl,hcap.1,by have:=hcap.2;unfold maxLen at this;omega,Bys.own hz h⟩
end Go.Proofs.YtclgbdfkdbbinaaGreat
