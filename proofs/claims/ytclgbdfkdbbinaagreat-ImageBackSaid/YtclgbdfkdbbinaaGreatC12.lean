/-
  What is proved here: words and contracts, a part of those that the statement rests on (C12).
  Conditions: none but that the arguments are values of their types.
-/
import Derived.Test.YtclgbdfkdbbinaaGreatC11
import Derived.Test.YtclgbdfkdbbinaaGreatC1
import Derived.Test.YtclgbdfkdbbinaaGreatC2
import Derived.Test.YtclgbdfkdbbinaaGreatC9
import Derived.Test.YtclgbdfkdbbinaaGreatC7
set_option linter.unusedVariables false
set_option linter.unusedSimpArgs false
set_option maxRecDepth 100000
set_option maxHeartbeats 12800000
namespace Go.Proofs.YtclgbdfkdbbinaaGreat
open Go.RowKit
theorem lknown_any (t:Int) (w:World):Calls Tryz.prog 163 #[.int .u32 t] w fun r w'=>r=.returned (.bool (knownL t))∧w=w':=by
 obtain ⟨b,hb⟩:∃b,knownL t=b:=⟨_,rfl⟩
 rw [hb];have HB:=Lib.hid hb;clear hb;go_enter Tryz.func163,Tryz.ntmps163
 go_wp2;all_goals (try simp only [beq_eq_false_iff_ne,beq_iff_eq,bne_iff_ne,bne_eq_false_iff_eq,ne_eq] at *)
 all_goals go_ret
 all_goals refine ⟨ret_bool ?_,rfl⟩
 all_goals rw [←HB.out]
 all_goals unfold knownL
 all_goals first | (symm;rw [decide_eq_true_eq];omega) | (symm;rw [decide_eq_false_iff_not];omega)
def aloneL (t:Int):Bool:=decide (t=0∨t=8)
theorem lalone_any (t:Int) (w:World):Calls Tryz.prog 164 #[.int .u32 t] w fun r w'=>r=.returned (.bool (aloneL t))∧w=w':=by
 obtain ⟨b,hb⟩:∃b,aloneL t=b:=⟨_,rfl⟩
 rw [hb];have HB:=Lib.hid hb;clear hb;go_enter Tryz.func164,Tryz.ntmps164
 go_wp2;all_goals (try simp only [beq_eq_false_iff_ne,beq_iff_eq,bne_iff_ne,bne_eq_false_iff_eq,ne_eq] at *)
 all_goals go_ret
 all_goals refine ⟨ret_bool ?_,rfl⟩
 all_goals rw [←HB.out]
 all_goals unfold aloneL
 all_goals (rw [Bool.eq_iff_iff];simp only [decide_eq_true_eq,beq_iff_eq,Bool.false_eq_true,Bool.true_eq_false,true_iff,false_iff,iff_true,iff_false])
 all_goals (try rw [Bool.or_eq_true,beq_iff_eq,beq_iff_eq])
 all_goals (try omega)
theorem errL_cases {s:Rl} {n:Int} (hk:knownL s.ty=true) (h0:0≤s.sy) :
 (s.sy=0→aloneL s.ty=false→errL s n=11)∧(s.sy=0→aloneL s.ty=true→errL s n=0)∧(s.sy≠0→n≤s.sy→errL s n=10)∧
 (s.sy≠0→s.sy<n→aloneL s.ty=true→errL s n=11)∧(s.sy≠0→s.sy<n→aloneL s.ty=false→errL s n=0):=by
 have e:errL s n=if 0<s.sy∧(n<0∨n≤s.sy) then 10 else if ((s.ty=0∨s.ty=8)∧s.sy≠0)∨(¬(s.ty=0∨s.ty=8)∧s.sy=0) then 11 else 0:=by
  unfold errL;rw [if_neg (by rw [hk];decide)]
 rw [e];unfold aloneL;simp only [decide_eq_true_eq,decide_eq_false_iff_not];refine ⟨fun a b=>?_,fun a b=>?_,fun a b=>?_,fun a b c=>?_,fun a b c=>?_⟩
 ·rw [if_neg (by omega),if_pos (by omega)]
 ·rw [if_neg (by omega),if_neg (by omega)]
 ·rw [if_pos (by omega)]
 ·rw [if_neg (by omega),if_pos (by omega)]
 ·rw [if_neg (by omega),if_neg (by omega)]
theorem lchk_any (s:Rl) (n:Int) (w:World) (h:s.Ok) (hn0:-9223372036854775808≤n) (hn1:n≤9223372036854775807) :
 Calls Tryz.prog 147 #[s.val,.int .i64 n] w fun r w'=>r=.returned (.int .i64 (errL s n))∧Below w.heap.size w w':=by
 have hcs:=fun hk=>errL_cases (n:=n) hk h.sy.1;have hbad:knownL s.ty=false→errL s n=33:=fun h=>by unfold errL;rw [if_pos h]
 generalize errL s n=r at hcs hbad;have HKN:=Lib.hid (fun w1=>lknown_any s.ty w1);have HAL:=Lib.hid (fun w1=>lalone_any s.ty w1);obtain ⟨⟨a0,a1⟩,⟨b0,b1⟩,⟨c0,c1⟩,⟨d0,d1⟩⟩:=h;obtain ⟨of,ty,sy,ad⟩:=s;unfold Rl.val;simp only at *;have HBE:Hid (∀o,Below w.heap.size w (w.alloc o)):=Lib.hid (fun o=>(Below.refl _ _).alloc (Nat.le_refl _) o);generalize knownL ty=kn at HKN hcs hbad;generalize aloneL ty=al at HAL hcs;cases kn
 ·obtain rfl:=hbad rfl;clear hcs hbad;go_enter Tryz.func147,Tryz.ntmps147
  go_wp2_with (go_at_call 163;refine (HKN.out _).mono ?_;rintro e w' ⟨rfl,rfl⟩);go_ret;exact ⟨rfl,HBE.out _⟩
 ·obtain ⟨h1,h2,h3,h4,h5⟩:=hcs rfl;clear hcs hbad;by_cases h0:sy=0
  ·subst h0;have hr:r=if al then 0 else 11:=by cases al;exact h1 rfl rfl;exact h2 rfl rfl
   clear h1 h2 h3 h4 h5;cases al
   all_goals obtain rfl:=hr
   all_goals go_enter Tryz.func147,Tryz.ntmps147
   all_goals go_wp2_with (go_at_call 163;refine (HKN.out _).mono ?_;rintro e w' ⟨rfl,rfl⟩)
   all_goals go_quiet (first | (go_at_call 164;refine Calls.quiet_of_same ((HAL.out _).mono fun _ _ h=>⟨h.1,h.2.symm⟩)))
   all_goals go_wp2
   all_goals go_ret
   all_goals exact ⟨rfl,below_drewN (HBE.out _) _⟩
  ·have hs:(sy != 0)=true:=by rw [bne_iff_ne];exact h0
   have hs2:(sy==0)=false:=by rw [beq_eq_false_iff_ne];exact h0
   by_cases hge:n≤sy
   ·obtain rfl:=h3 h0 hge;clear h1 h2 h3 h4 h5 h0;go_enter Tryz.func147,Tryz.ntmps147
    go_wp2_with (go_at_call 163;refine (HKN.out _).mono ?_;rintro e w' ⟨rfl,rfl⟩);go_ret;exact ⟨rfl,HBE.out _⟩
   ·have hr:r=if al then 11 else 0:=by cases al;exact h5 h0 (by omega) rfl;exact h4 h0 (by omega) rfl
    clear h1 h2 h3 h4 h5 h0;cases al
    all_goals obtain rfl:=hr
    all_goals go_enter Tryz.func147,Tryz.ntmps147
    all_goals go_wp2_with (go_at_call 163;refine (HKN.out _).mono ?_;rintro e w' ⟨rfl,rfl⟩)
    all_goals go_quiet (first | (go_at_call 164;refine Calls.quiet_of_same ((HAL.out _).mono fun _ _ h=>⟨h.1,h.2.symm⟩)))
    all_goals go_wp2
    all_goals go_ret
    all_goals exact ⟨rfl,below_drewN (HBE.out _) _⟩
theorem lcheck_any (B:Nat) (a:Option Addr) (len cap:Nat) (L:List Rl) (n:Int) (w:World) (hs:Rl.Sl w B a len L) (hB:B≤w.heap.size) (hcap:len≤cap) (hcm:(cap:Int)≤9223372036854775807) (hn0:-9223372036854775808≤n) (hn1:n≤9223372036854775807) :
 Calls Tryz.prog 106 #[.slice a len cap,.int .i64 n] w fun r w'=>r=.returned (.int .i64 (checkL L n))∧Below w.heap.size w w':=by
 obtain ⟨r,hr⟩:∃r,checkL L n=r:=⟨_,rfl⟩
 rw [hr];have hl:(len:Int)≤9223372036854775807:=by omega
 have HG:Hid ((∀k,k<len→errL (L.getD k Rl.zero) n=0)→r=0):=Lib.hid (fun h=>hr▸checkL_good (by rw [hs.hl];exact h));have HX:Hid (∀k,k<len→(∀j,j<k→errL (L.getD j Rl.zero) n=0)→errL (L.getD k Rl.zero) n≠0→r=errL (L.getD k Rl.zero) n):=Lib.hid (fun k hk h0 h=>hr▸checkL_bad (by rw [hs.hl];exact hk) h0 h);have HS:=Lib.hid hs;clear hr hs;go_enter Tryz.func106,Tryz.ntmps106
 go_wp2;go_loopw [6,7,10] (fun _ _ i wr=>∃k:Nat,k≤len∧i=.int .i64 k∧(∀j,j<k→errL (L.getD j Rl.zero) n=0)∧Below w.heap.size w wr) (fun _ _ i _=>len-(intOf i).toNat)
 case atStart=>exact ⟨0,Nat.zero_le _,rfl,fun j hj=>absurd hj (by omega),Below.refl _ _⟩
 case round=>
  obtain ⟨k,hk,rfl,hno,hbel⟩:=hrel;by_cases hlt:k<len
  ·obtain ⟨b,off,rfl,hbB,hcell⟩:=HS.out.hc (by omega);obtain ⟨c0,c1,c2,c3⟩:=(hcell k hlt).below (hbel.mono hB) hbB;have hok:=HS.out.okAt hlt;have HNX:=Lib.hid (good_upto hno);have HBD:=Lib.hid (HX.out k hlt hno);have hlti:(k:Int)<len:=by omega
   have hbs:=hbel.size;have HBE:Hid (∀o,Below w.heap.size w (wr.alloc o)):=Lib.hid (fun o=>hbel.alloc hbs o);generalize L.getD k Rl.zero=s at c0 c1 c2 c3 hok HNX HBD;have HV:=Lib.hid (fun w1=>lchk_any s n w1 hok hn0 hn1);obtain ⟨⟨a0,a1⟩,⟨b0,b1⟩,⟨o0,o1⟩,⟨d0,d1⟩⟩:=hok;obtain ⟨of,ty,sy,ad⟩:=s;unfold Rl.val at HV;simp only at c0 c1 c2 c3 a0 a1 b0 b1 o0 o1 d0 d1 HV;have hbw:b<wr.heap.size:=by omega
   clear hcell hno hbel;generalize errL ⟨of,ty,sy,ad⟩ n=y at HV HBD HNX;by_cases hy:y=0
   ·subst hy;go_wp2_with fail;refine (HV.out _).mono ?_;rintro e w2 ⟨rfl,hb2⟩;have HB2:=Lib.hid ((HBE.out _).trans (hb2.mono (by simp;omega)));clear hb2;go_wp2;go_roundw
    case rel=>exact ⟨k+1,by omega,by go_num,HNX.out (by trivial),HB2.out⟩
    case measure=>(simp [intOf]<;>omega)
   ·have hyb:(y != 0)=true:=by rw [bne_iff_ne];exact hy
    have HRY:=Lib.hid (HBD.out hy);clear hy;go_wp2_with fail;refine (HV.out _).mono ?_;rintro e w2 ⟨rfl,hb2⟩;have HB2:=Lib.hid ((HBE.out _).trans (hb2.mono (by simp;omega)));clear hb2;go_wp2;go_ret;exact ⟨k7_ret_i64 HRY.out.symm,HB2.out⟩
  ·obtain rfl:k=len:=by omega
   have HB:=Lib.hid hbel;have HN:=Lib.hid (HG.out hno);clear hbel hno;go_wp2;go_ret;exact ⟨k7_ret_i64 HN.out.symm,HB.out⟩
theorem Blk.c3 {w:World} {g:Nat} {v0 v1 v2:Value} {t:TypeId} (h:Blk w g #[v0,v1,v2] t) :
 w.cell? ⟨g,0,none⟩=some v0∧w.cell? ⟨g,1,none⟩=some v1∧w.cell? ⟨g,2,none⟩=some v2:=⟨h.cell 0,h.cell 1,h.cell 2⟩
theorem Blk.f3 {w:World} {g:Nat} {v0 v1 v2:Value} {t:TypeId} (h:Blk w g #[v0,v1,v2] t) :
 w.frozen? ⟨g,0,none⟩=false∧w.frozen? ⟨g,1,none⟩=false∧w.frozen? ⟨g,2,none⟩=false:=⟨h.frozen 0,h.frozen 1,h.frozen 2⟩
theorem k7_piece_piece {zs:List Int} {p n q k:Nat} (h:q+k≤n):piece (piece zs p n) q k=piece zs (p+q) k:=by
 unfold piece;rw [List.drop_take,List.take_take,List.drop_drop,Nat.min_eq_left (by omega)]
theorem lread_ok (B:Nat) (a:Option Addr) (len cap:Nat) (zs:List Int) (w:World) (hb:Bys w B a len zs) (hB:B≤w.heap.size) (hl:(len:Int)≤9223372036854775807) (hs:24≤len) :
 Calls Tryz.prog 146 #[.slice a len cap] w fun r w'=>r=.returned (.agg #[.int .u64 (num (piece zs 0 8)),.int .u64 (num (piece zs 8 8)),.int .u64 (num (piece zs 16 8))])∧Below w.heap.size w w':=by
 have HB:=Lib.hid hb;obtain ⟨x0,h0⟩:∃x,num (piece zs 0 8)=x:=⟨_,rfl⟩
 obtain ⟨x1,h1⟩:∃x,num (piece zs 8 8)=x:=⟨_,rfl⟩
 obtain ⟨x2,h2⟩:∃x,num (piece zs 16 8)=x:=⟨_,rfl⟩
 rw [h0,h1,h2];have HG:Hid (∀w1,Below w.heap.size w w1→
  Calls Tryz.prog 131 #[.slice a len cap,.int .u64 0,.int .i64 8] w1 (fun e w'=>e=.returned (.tuple #[.int .u64 x0,.int .i64 0])∧w1=w')∧
  Calls Tryz.prog 131 #[.slice a len cap,.int .u64 8,.int .i64 8] w1 (fun e w'=>e=.returned (.tuple #[.int .u64 x1,.int .i64 0])∧w1=w')∧
  Calls Tryz.prog 131 #[.slice a len cap,.int .u64 16,.int .i64 8] w1 (fun e w'=>e=.returned (.tuple #[.int .u64 x2,.int .i64 0])∧w1=w')):=Lib.hid (fun w1 hw=>by
  have hq:=hb.below (hw.mono hB);rw [←h0,←h1,←h2];exact ⟨get_ok B a len cap zs 0 8 w1 hq (by decide) hl (by omega),get_ok B a len cap zs 8 8 w1 hq (by decide) hl (by omega),get_ok B a len cap zs 16 8 w1 hq (by decide) hl (by omega)⟩)
 have HL0:Hid (Blk ((w.alloc (.cells #[.int .u64 0,.int .u64 0,.int .u64 0] 184)).alloc (.cells #[.int .u64 0,.int .u64 0,.int .u64 0] 184)) w.heap.size #[.int .u64 0,.int .u64 0,.int .u64 0] 184):=Lib.hid ((Blk.new w _ _).alloc _);have HL1:Hid (Blk ((w.alloc (.cells #[.int .u64 0,.int .u64 0,.int .u64 0] 184)).alloc (.cells #[.int .u64 0,.int .u64 0,.int .u64 0] 184)) (w.heap.size+1) #[.int .u64 0,.int .u64 0,.int .u64 0] 184):=Lib.hid (by
  have:=Blk.new (w.alloc (.cells #[.int .u64 0,.int .u64 0,.int .u64 0] 184)) #[.int .u64 0,.int .u64 0,.int .u64 0] 184;rw [World.size_alloc] at this;exact this)
 have HBL:Hid (Below w.heap.size w ((w.alloc (.cells #[.int .u64 0,.int .u64 0,.int .u64 0] 184)).alloc (.cells #[.int .u64 0,.int .u64 0,.int .u64 0] 184))):=Lib.hid (((Below.refl _ _).alloc (Nat.le_refl _) _).alloc (by simp) _);clear hb h0 h1 h2;go_enter Tryz.func146,Tryz.ntmps146
 go_wp2;go_loopw [4,5] (fun _ i wr=>∃k:Nat,k≤3∧i=.int .i64 k∧Blk wr w.heap.size #[.int .u64 0,.int .u64 0,.int .u64 0] 184∧Blk wr (w.heap.size+1) #[.int .u64 (if 0<k then x0 else 0),.int .u64 (if 1<k then x1 else 0),.int .u64 (if 2<k then x2 else 0)] 184∧Below w.heap.size w wr) (fun _ i _=>3-(intOf i).toNat)
 case atStart=>exact ⟨0,Nat.zero_le _,rfl,HL0.out,HL1.out,HBL.out⟩
 case round=>
  obtain ⟨k,hk,rfl,hr,hx,hbel⟩:=hrel;have hor:k=0∨k=1∨k=2∨k=3:=by omega
  obtain ⟨G0,G1,G2⟩:=HG.out _ hbel;have hbs:=hbel.size;rcases hor with rfl | rfl | rfl | rfl
  ·rw [show ((0:Nat):Int)=0 from rfl];have hx':Blk wr (w.heap.size+1) #[.int .u64 0,.int .u64 0,.int .u64 0] 184:=hx;obtain ⟨c0,c1,c2⟩:=hx'.c3;obtain ⟨f0,f1,f2⟩:=hx'.f3;have HR:=Lib.hid (hr.setOther (a:=⟨w.heap.size+1,0,none⟩) (Nat.ne_of_lt (Nat.lt_succ_self _)) (.int .u64 x0));have HX:=Lib.hid (hx'.set 0 (.int .u64 x0));have HE:=Lib.hid (hbel.setCell (p:=⟨w.heap.size+1,0,none⟩) (Nat.le_succ _) (.int .u64 x0));have H0:=Lib.hid G0;clear hr hx hx' hbel G0 G1 G2;go_wp2_with (go_at_call 131;with_reducible refine H0.out.mono ?_;rintro e w' ⟨rfl,rfl⟩);go_roundw
   case rel=>exact ⟨1,by omega,by go_num,HR.out,HX.out,HE.out⟩
   case measure=>(simp [intOf]<;>omega)
  ·rw [show ((1:Nat):Int)=1 from rfl];have hx':Blk wr (w.heap.size+1) #[.int .u64 x0,.int .u64 0,.int .u64 0] 184:=hx;obtain ⟨c0,c1,c2⟩:=hx'.c3;obtain ⟨f0,f1,f2⟩:=hx'.f3;have HR:=Lib.hid (hr.setOther (a:=⟨w.heap.size+1,1,none⟩) (Nat.ne_of_lt (Nat.lt_succ_self _)) (.int .u64 x1));have HX:=Lib.hid (hx'.set 1 (.int .u64 x1));have HE:=Lib.hid (hbel.setCell (p:=⟨w.heap.size+1,1,none⟩) (Nat.le_succ _) (.int .u64 x1));have H0:=Lib.hid G1;clear hr hx hx' hbel G0 G1 G2;go_wp2_with (go_at_call 131;with_reducible refine H0.out.mono ?_;rintro e w' ⟨rfl,rfl⟩);go_roundw
   case rel=>exact ⟨2,by omega,by go_num,HR.out,HX.out,HE.out⟩
   case measure=>(simp [intOf]<;>omega)
  ·rw [show ((2:Nat):Int)=2 from rfl];have hx':Blk wr (w.heap.size+1) #[.int .u64 x0,.int .u64 x1,.int .u64 0] 184:=hx;obtain ⟨c0,c1,c2⟩:=hx'.c3;obtain ⟨f0,f1,f2⟩:=hx'.f3;have HR:=Lib.hid (hr.setOther (a:=⟨w.heap.size+1,2,none⟩) (Nat.ne_of_lt (Nat.lt_succ_self _)) (.int .u64 x2));have HX:=Lib.hid (hx'.set 2 (.int .u64 x2));have HE:=Lib.hid (hbel.setCell (p:=⟨w.heap.size+1,2,none⟩) (Nat.le_succ _) (.int .u64 x2));have H0:=Lib.hid G2;clear hr hx hx' hbel G0 G1 G2;go_wp2_with (go_at_call 131;with_reducible refine H0.out.mono ?_;rintro e w' ⟨rfl,rfl⟩);go_roundw
   case rel=>exact ⟨3,by omega,by go_num,HR.out,HX.out,HE.out⟩
   case measure=>(simp [intOf]<;>omega)
  ·rw [show ((3:Nat):Int)=3 from rfl];have hx':Blk wr (w.heap.size+1) #[.int .u64 x0,.int .u64 x1,.int .u64 x2] 184:=hx;obtain ⟨c0,c1,c2⟩:=hx'.c3;obtain ⟨q0,q1,q2⟩:=hr.c3;obtain ⟨f0,f1,f2⟩:=hr.f3;have HE:=Lib.hid hbel;clear hr hx hx' hbel G0 G1 G2;go_wp2;refine bodyPost_ret (v:=.agg #[.int .u64 x0,.int .u64 x1,.int .u64 x2]) (by simp [results,Tryz.results146,go_sem,q0,q1,q2]) rfl ⟨rfl,?_⟩;exact ((HE.out.setCell (Nat.le_refl _) _).setCell (Nat.le_refl _) _).setCell (Nat.le_refl _) _
theorem info_or {ty sy:Int} (t0:0≤ty) (t1:ty≤4294967295) (s0:0≤sy) (s1:sy≤4294967295):bits .or .u64 (sy*4294967296) ty=ty+sy*4294967296:=by
 obtain ⟨ty,rfl⟩:=Int.eq_ofNat_of_zero_le t0;obtain ⟨sy,rfl⟩:=Int.eq_ofNat_of_zero_le s0;have e:((sy:Int)*4294967296)=((sy*4294967296:Nat):Int):=by omega
 rw [e,u64_or_nat _ _ (by omega) (by omega),nat_join 32 (sy*4294967296) ty (Nat.mul_mod_left _ _) (by omega)];omega
theorem lwords_ok (s:Rl) (w:World) (h:s.Ok) :
 Calls Tryz.prog 130 #[s.val] w fun r w'=>r=.returned (.agg #[.int .u64 s.of,.int .u64 (infoL s),.int .u64 (IntKind.u64.wrap s.ad)])∧Below w.heap.size w w':=by
 obtain ⟨⟨a0,a1⟩,⟨b0,b1⟩,⟨c0,c1⟩,⟨d0,d1⟩⟩:=h;obtain ⟨of,ty,sy,ad⟩:=s;unfold Rl.val infoL;simp only at *;have HBL2:Hid (∀o o',Below w.heap.size w ((w.alloc o).alloc o')):=Lib.hid (fun o o'=>((Below.refl _ _).alloc (Nat.le_refl _) o).alloc (by simp) o');have HOR:=Lib.hid (info_or b0 b1 c0 c1);go_enter Tryz.func130,Tryz.ntmps130
 go_wp2;refine bodyPost_ret (v:=.agg #[.int .u64 of,.int .u64 (ty+sy*4294967296),.int .u64 (IntKind.u64.wrap ad)]) (by simp [results,Tryz.results130,go_sem];exact HOR.out) rfl ⟨rfl,?_⟩;exact HBL2.out _ _
theorem lentry_ok (x0 x1 x2:Int) (w:World) (a0:0≤x0) (a1:x0≤18446744073709551615) (b0:0≤x1) (b1:x1≤18446744073709551615) (c0:0≤x2) (c1:x2≤18446744073709551615) :
 Calls Tryz.prog 145 #[.agg #[.int .u64 x0,.int .u64 x1,.int .u64 x2]] w fun r w'=>r=.returned (Rl.val ⟨x0,x1 % 4294967296,x1 / 4294967296,IntKind.i64.wrap x2⟩)∧Below w.heap.size w w':=by
 have HBL2:Hid (∀o o',Below w.heap.size w ((w.alloc o).alloc o')):=Lib.hid (fun o o'=>((Below.refl _ _).alloc (Nat.le_refl _) o).alloc (by simp) o');unfold Rl.val;simp only
 go_enter Tryz.func145,Tryz.ntmps145
 go_wp2;refine bodyPost_ret (v:=.agg #[.int .u64 x0,.int .u32 (x1 % 4294967296),.int .u32 (x1 / 4294967296),.int .i64 (IntKind.i64.wrap x2)]) (by simp [results,Tryz.results145,go_sem];exact (IntWalk.i64_left _).symm) rfl ⟨rfl,?_⟩;exact HBL2.out _ _
theorem k7_setB_fill {A:List Int} {m p k:Nat} (x:Int) (hp:A.length=p):setB (A++List.replicate m 0) p x k=(A++digs x k)++List.replicate (m-k) 0:=by
 subst hp;unfold setB;rw [List.take_left,List.drop_append];rw [List.drop_eq_nil_of_le (by omega),List.nil_append,Nat.add_sub_cancel_left,List.drop_replicate,List.append_assoc]
theorem digs_more {A:List Int} (x:Int) (k:Nat) (h:∀n∈A,0≤n∧n≤255):∀n∈A++digs x k,0≤n∧n≤255:=by
 intro n hn;rcases List.mem_append.1 hn with h1 | h1
 ·exact h n h1
 ·exact digs_bd x k n h1
theorem noughts_more {A:List Int} (m:Nat) (h:∀n∈A,0≤n∧n≤255):∀n∈A++List.replicate m 0,0≤n∧n≤255:=by
 intro n hn;rcases List.mem_append.1 hn with h1 | h1
 ·exact h n h1
 ·rw [List.eq_of_mem_replicate h1];decide
theorem lset_next (base:Nat) (g:Nat) (A:List Int) (x:Int) (w:World) (p:Nat) (hp:A.length=p) (hA:∀n∈A,0≤n∧n≤255) (ho:w.ownsRow base 5 1 (.slice (some ⟨g,0,none⟩) 24 24) 24 ((A++List.replicate (24-p) 0).map (Value.int .u8))) (hb:base≤w.heap.size) (hs:p+8≤24) (x0:0≤x) (x1:x≤18446744073709551615) :
 Calls Tryz.prog 129 #[.slice (some ⟨g,0,none⟩) 24 24,.int .u64 p,.int .i64 8,.int .u64 x] w fun r w'=>(∃g',r=.returned (.tuple #[.slice (some ⟨g',0,none⟩) 24 24,.int .i64 0])∧w'.ownsRow base 5 1 (.slice (some ⟨g',0,none⟩) 24 24) 24 (((A++digs x 8)++List.replicate (24-(p+8)) 0).map (Value.int .u8)))∧Below base w w':=by
 have h:=set_ok w.heap.size (some ⟨g,0,none⟩) 24 24 _ p 8 x w (Bys.own (noughts_more _ hA) ho) (Nat.le_refl _) (by decide) (by decide) hs x0 x1;rw [k7_setB_fill x hp] at h;refine h.mono ?_;rintro r w' ⟨rfl,hown,hbel⟩;refine ⟨⟨_,rfl,?_⟩,hbel.mono hb⟩;rw [Nat.sub_sub] at hown;exact own_base hown hb
def putAt (s:Rl):Nat→List Int
 | 0=>[]
 | 1=>digs s.of 8
 | 2=>digs s.of 8++digs (infoL s) 8
 | _=>digs s.of 8++digs (infoL s) 8++digs (IntKind.u64.wrap s.ad) 8
theorem putAt_len (s:Rl):∀k,k≤3→(putAt s k).length=8*k
 | 0,_=>rfl
 | 1,_=>by simp [putAt,digs_len]
 | 2,_=>by simp [putAt,digs_len]
 | 3,_=>by simp [putAt,digs_len]
theorem putAt_bd (s:Rl):∀k,k≤3→∀n∈putAt s k,0≤n∧n≤255
 | 0,_=>fun n h=>by cases h
 | 1,_=>digs_bd _ _
 | 2,_=>digs_more _ _ (digs_bd _ _)
 | 3,_=>digs_more _ _ (digs_more _ _ (digs_bd _ _))
theorem lput_ok (s:Rl) (w:World) (h:s.Ok) :
 Calls Tryz.prog 79 #[s.val] w fun r w'=>(∃u,r=.returned u∧k7_Made (encL s) u w')∧Below w.heap.size w w':=by
 obtain ⟨i0,hi,hz0,hz1,hz2⟩:=info_parts info_u8;have HI:=Lib.hid hi;have HZ0:=Lib.hid hz0;have HZ1:=Lib.hid hz1;have HZ2:=Lib.hid hz2;have HE:Hid (putAt s 3=encL s):=Lib.hid (by simp [putAt,encL]);have HEB:=Lib.hid (encL_bd s);have HEL:=Lib.hid (encL_len s);have HL:=Lib.hid (putAt_len s);have HD:=Lib.hid (putAt_bd s);have i0':0≤infoL s:=by unfold infoL;have:=h.ty;have:=h.sy;omega
 have i1':infoL s≤18446744073709551615:=by unfold infoL;have:=h.ty;have:=h.sy;omega
 have u0:0≤IntKind.u64.wrap s.ad:=by rw [IntKind.wrap_u64];omega
 have u1:IntKind.u64.wrap s.ad≤18446744073709551615:=by rw [IntKind.wrap_u64];omega
 have HW:=Lib.hid (fun w1=>lwords_ok s w1 h);have HP0:Hid (putAt s 0=[]):=Lib.hid rfl;have H1:Hid (putAt s 1=putAt s 0++digs s.of 8):=Lib.hid rfl;have H2:Hid (putAt s 2=putAt s 1++digs (infoL s) 8):=Lib.hid rfl;have H3:Hid (putAt s 3=putAt s 2++digs (IntKind.u64.wrap s.ad) 8):=Lib.hid rfl;obtain ⟨o0,o1⟩:=h.of;generalize hP:putAt s=P at *;generalize encL s=zs at *;generalize infoL s=y at *;generalize IntKind.u64.wrap s.ad=z at *;clear h hi hz0 hz1 hz2 hP;obtain ⟨of,ty,sy,ad⟩:=s;unfold Rl.val at *;simp only at *;go_enter Tryz.func79,Tryz.ntmps79
 go_wp2_with (at_make;refine wpList_make_full _ rfl _ _ 22 rfl (w.heap.size+1) 5 i0 (.int .u8 0) 1 Tryz.underlying22 HI.out HZ0.out HZ1.out .i64 .i64 _ _ 24 rfl rfl rfl rfl ?c1 ?c2 ?c3 ?_);case c1=>rw [HZ2.out];omega
 case c2=>unfold maxLen;omega
 case c3=>simp
 intro w1 hown hg;have hb1:Below w.heap.size w w1:=((Below.refl _ _).alloc (Nat.le_refl _) _).grown hg (by simp) (fun _ e=>by cases e);have hbx:=(Blk.new w #[.int .u64 of,.int .u32 ty,.int .u32 sy,.int .i64 ad] 78).grown hg (by simp);obtain ⟨q0,q1,q2,q3⟩:=Rl.cs hbx;have hgb:w.heap.size≤w1.heap.size:=hb1.size;have HO0:Hid (∃g,(Value.slice (some ⟨w.heap.size+1,0,none⟩) 24 24)=.slice (some ⟨g,0,none⟩) 24 24∧w1.ownsRow w.heap.size 5 1 (.slice (some ⟨g,0,none⟩) 24 24) 24 ((P 0++List.replicate (24-8*0) 0).map (Value.int .u8))):=Lib.hid (by
  rw [toList_madeCells_one] at hown;have e:(P 0++List.replicate (24-8*0) (0:Int)).map (Value.int .u8)=List.replicate 24 (.int .u8 0):=by rw [HP0.out];simp
  rw [e];exact ⟨_,rfl,own_base hown (Nat.le_succ _)⟩)
 have HB1:=Lib.hid hb1;clear hown hg hb1 hbx;go_wp2_with fail;refine (HW.out _).mono ?_;rintro r w2 ⟨rfl,hb2⟩;have HB2:=Lib.hid (HB1.out.trans (hb2.mono hgb));have HO2:Hid (∃g,(Value.slice (some ⟨w.heap.size+1,0,none⟩) 24 24)=.slice (some ⟨g,0,none⟩) 24 24∧w2.ownsRow w.heap.size 5 1 (.slice (some ⟨g,0,none⟩) 24 24) 24 ((P 0++List.replicate (24-8*0) 0).map (Value.int .u8))):=Lib.hid (by
  obtain ⟨g,e,h⟩:=HO0.out;exact ⟨g,e,own_below h hb2⟩)
 clear hb2 q0 q1 q2 q3 HO0;have ia0:∀w,(Instr.index 184 (.agg #[.int .u64 of,.int .u64 y,.int .u64 z]) (.int .i64 0)).run Tryz.prog w=.ok (.int .u64 of) w:=fun _=>by kernel_rfl
 have ia1:∀w,(Instr.index 184 (.agg #[.int .u64 of,.int .u64 y,.int .u64 z]) (.int .i64 1)).run Tryz.prog w=.ok (.int .u64 y) w:=fun _=>by kernel_rfl
 have ia2:∀w,(Instr.index 184 (.agg #[.int .u64 of,.int .u64 y,.int .u64 z]) (.int .i64 2)).run Tryz.prog w=.ok (.int .u64 z) w:=fun _=>by kernel_rfl
 go_wp2;go_loopw [3,4,5,9] (fun b _ _ i wr=>∃k g:Nat,k≤3∧i=.int .i64 k∧b=.slice (some ⟨g,0,none⟩) 24 24∧wr.ownsRow w.heap.size 5 1 (.slice (some ⟨g,0,none⟩) 24 24) 24 ((P k++List.replicate (24-8*k) 0).map (Value.int .u8))∧Below w.heap.size w wr) (fun _ _ _ i _=>3-(intOf i).toNat)
 case atStart=>
  obtain ⟨g,e,h⟩:=HO2.out;exact ⟨0,g,Nat.zero_le _,rfl,e,h,HB2.out⟩
 case round=>
  obtain ⟨k,g,hk,rfl,rfl,hown,hbel⟩:=hrel;have hor:k=0∨k=1∨k=2∨k=3:=by omega
  rcases hor with rfl | rfl | rfl | rfl
  ·have HS:=Lib.hid (lset_next w.heap.size g (P 0) of wr 0 (HL.out 0 (by decide)) (HD.out 0 (by decide)) hown hbel.size (by decide) o0 o1);rw [show ((0:Nat):Int)=0 from rfl];have HBE:=Lib.hid hbel;clear hown hbel;go_wp2_with (go_at_call 129;refine HS.out.mono ?_;rintro r w3 ⟨⟨g',rfl,ho⟩,hb3⟩);have HO3:=Lib.hid ho;have HB3:=Lib.hid (HBE.out.trans hb3);clear ho hb3;go_wp2;go_roundw
   case rel=>exact ⟨1,g',by omega,by go_num,rfl,by rw [H1.out];exact HO3.out,HB3.out⟩
   case measure=>(simp [intOf]<;>omega)
  ·have HS:=Lib.hid (lset_next w.heap.size g (P 1) y wr 8 (HL.out 1 (by decide)) (HD.out 1 (by decide)) hown hbel.size (by decide) i0' i1');rw [show ((1:Nat):Int)=1 from rfl];have HBE:=Lib.hid hbel;clear hown hbel;go_wp2_with (go_at_call 129;refine HS.out.mono ?_;rintro r w3 ⟨⟨g',rfl,ho⟩,hb3⟩);have HO3:=Lib.hid ho;have HB3:=Lib.hid (HBE.out.trans hb3);clear ho hb3;go_wp2;go_roundw
   case rel=>exact ⟨2,g',by omega,by go_num,rfl,by rw [H2.out];exact HO3.out,HB3.out⟩
   case measure=>(simp [intOf]<;>omega)
  ·have HS:=Lib.hid (lset_next w.heap.size g (P 2) z wr 16 (HL.out 2 (by decide)) (HD.out 2 (by decide)) hown hbel.size (by decide) u0 u1);rw [show ((2:Nat):Int)=2 from rfl];have HBE:=Lib.hid hbel;clear hown hbel;go_wp2_with (go_at_call 129;refine HS.out.mono ?_;rintro r w3 ⟨⟨g',rfl,ho⟩,hb3⟩);have HO3:=Lib.hid ho;have HB3:=Lib.hid (HBE.out.trans hb3);clear ho hb3;go_wp2;go_roundw
   case rel=>exact ⟨3,g',by omega,by go_num,rfl,by rw [H3.out];exact HO3.out,HB3.out⟩
   case measure=>(simp [intOf]<;>omega)
  ·rw [show ((3:Nat):Int)=3 from rfl];have HO3:=Lib.hid hown;have HBE:=Lib.hid hbel;clear hown hbel;go_wp2;go_ret;refine ⟨⟨_,rfl,?_⟩,HBE.out⟩;have h:=HO3.out;rw [HE.out] at h;have e:(zs++List.replicate (24-8*3) (0:Int))=zs:=by simp
   rw [e,←HEL.out] at h;exact k7_own_made (by rw [HEL.out] at h⊢;exact h) (by rw [HEL.out];decide) HEB.out
def slenL:Value→Nat
 | .slice _ m _=>m
 | _=>0
theorem ltable_any (B:Nat) (a:Option Addr) (len cap:Nat) (zs:List Int) (w:World) (hb:Bys w B a len zs) (hB:B≤w.heap.size) (hl:len≤140737488355328) (hcap:len≤cap) (hcm:(cap:Int)≤9223372036854775807) :
 Calls Tryz.prog 105 #[.slice a len cap] w fun r w'=>(∃u,r=.returned (.tuple #[u,.int .i64 (tabL zs).1])∧w'.ownsRow w.heap.size 78 4 u (tabL zs).2.length (Rl.flat (tabL zs).2))∧Below w.heap.size w w':=by
 obtain ⟨i0,hi,hz0,hz1,hz2⟩:=info_parts info_rel;have HI:=Lib.hid hi;have HZ0:=Lib.hid hz0;have HZ1:=Lib.hid hz1;have HZ2:=Lib.hid hz2;have HZB:=Lib.hid hb.2.1;have HZL:=Lib.hid hb.1;have HBY:=Lib.hid hb;have hli:(len:Int)≤140737488355328:=by omega
 obtain ⟨g0,off,HA⟩:∃g0 off,Hid (0<len→a=some ⟨g0,off,none⟩∧g0<B):=by
  by_cases h0:0<len
  ·obtain ⟨b,off,e,h1,_⟩:=hb.2.2 h0;exact ⟨b,off,Lib.hid (fun _=>⟨e,h1⟩)⟩
  ·exact ⟨0,0,Lib.hid (fun h=>absurd h h0)⟩
 clear hi hz0 hz1 hz2;by_cases hm:len % 24=0
 ·have HR:Hid (tabL zs=(0,k7_tabR zs (len / 24))):=Lib.hid (by unfold tabL;rw [HZL.out,if_pos hm]);rw [HR.out];have hmi:(len:Int) % 24=0:=by omega
  have HTL:=Lib.hid (tabR_len zs (len / 24));obtain ⟨n,hn⟩:∃n,len / 24=n:=⟨_,rfl⟩
  have hni:(len:Int) / 24=(n:Int):=by omega
  rw [hn] at HTL HR⊢;have hln1:len≤24*n:=by omega
  have hln2:24*n≤len:=by omega
  clear hb hn hm;go_enter Tryz.func105,Tryz.ntmps105
  go_wp2_with (at_make;refine wpList_make_own _ rfl _ _ 30 rfl w.heap.size 78 i0 _ 4 Tryz.underlying30 HI.out HZ0.out HZ1.out .i64 .i64 _ n rfl rfl rfl ?c1 ?c2 ?c3 ?_);case c1=>rw [HZ2.out];omega
  case c2=>unfold maxLen;omega
  case c3=>exact Nat.le_refl _
  intro w1 hown1 hg1;have hbw1:Below w.heap.size w w1:=(Below.refl _ _).grown hg1 (Nat.le_refl _) (fun _ e=>by cases e);have HO1:=Lib.hid hown1;have HB1:=Lib.hid hbw1;clear hown1 hg1 hbw1;go_wp2;go_loopw [0,4] (fun b v wr=>∃(k m cp:Nat) (ad:Option Addr),b=.slice ad m cp∧24*k+m=len∧24*k+cp=cap∧(0<m→ad=some ⟨g0,off+24*k,none⟩)∧wr.ownsRow w.heap.size 78 4 v k (Rl.flat (k7_tabR zs k))∧Below w.heap.size w wr) (fun b _ _=>slenL b)
  case atStart=>exact ⟨0,len,cap,a,rfl,by omega,by omega,fun h=>(HA.out h).1,HO1.out,HB1.out⟩
  case round=>
   obtain ⟨k,m,cp,ad,rfl,hm,hcp,had,hown,hbel⟩:=hrel;have hbs:=hbel.size;have HOW:=Lib.hid hown;have HBE:=Lib.hid hbel;by_cases hlt:0<m
   ·obtain rfl:=had hlt;have hmm:24≤m:=by omega
    have hmi2:(0:Int)<m:=by omega
    have hmi3:(24:Int)≤m:=by omega
    have hcpi:(m:Int)≤cp:=by omega
    have hcpm:(cp:Int)≤9223372036854775807:=by omega
    have hrd:24*k+24≤zs.length:=by have:=HZL.out;omega
    have HBYW:Hid (Bys wr B (some ⟨g0,off+24*k,none⟩) m (piece zs (24*k) m)):=Lib.hid (by
     have h:=HBY.out.below (hbel.mono hB);rw [(HA.out (by omega)).1] at h;exact h.sub (by omega))
    obtain ⟨x0,hx0⟩:∃x,num (piece zs (24*k) 8)=x:=⟨_,rfl⟩
    obtain ⟨x1,hx1⟩:∃x,num (piece zs (24*k+8) 8)=x:=⟨_,rfl⟩
    obtain ⟨x2,hx2⟩:∃x,num (piece zs (24*k+16) 8)=x:=⟨_,rfl⟩
    have HRD:Hid (Calls Tryz.prog 146 #[.slice (some ⟨g0,off+24*k,none⟩) m cp] wr fun r w'=>r=.returned (.agg #[.int .u64 x0,.int .u64 x1,.int .u64 x2])∧Below wr.heap.size wr w'):=Lib.hid (by
     have h:=lread_ok B _ m cp _ wr HBYW.out (Nat.le_trans hB hbs) (by omega) hmm;rw [k7_piece_piece (by omega),k7_piece_piece (by omega),k7_piece_piece (by omega),Nat.add_zero,hx0,hx1,hx2] at h;exact h)
    have HTS:Hid (k7_tabR zs (k+1)=k7_tabR zs k++[⟨x0,x1 % 4294967296,x1 / 4294967296,IntKind.i64.wrap x2⟩]):=Lib.hid (by
     rw [tabR_succ,←hx0,←hx1,←hx2];rfl)
    have hbd:∀{p:Nat},p+8≤zs.length→0≤num (piece zs p 8)∧num (piece zs p 8)≤18446744073709551615:=fun {p} hp=>by
     have:=num_piece_lt (p:=p) (k:=8) HZB.out hp;omega
    obtain ⟨p0,p1⟩:=hbd (p:=24*k) (by omega);obtain ⟨p2,p3⟩:=hbd (p:=24*k+8) (by omega);obtain ⟨p4,p5⟩:=hbd (p:=24*k+16) (by omega);rw [hx0] at p0 p1;rw [hx1] at p2 p3;rw [hx2] at p4 p5;have HEN:=Lib.hid (fun w1=>lentry_ok x0 x1 x2 w1 p0 p1 p2 p3 p4 p5);unfold Rl.val at HEN;simp only at HEN;have HOC:=Lib.hid (k7_one_cells ⟨x0,x1 % 4294967296,x1 / 4294967296,IntKind.i64.wrap x2⟩);generalize IntKind.i64.wrap x2=ad at HEN HOC HTS;generalize x1 % 4294967296=ty at HEN HOC HTS;generalize x1 / 4294967296=sy at HEN HOC HTS;have hkn:(k:Int)≤140737488355328:=by omega
    clear hown hbel hx0 hx1 hx2 p0 p1 p2 p3 p4 p5 hbd HBYW hrd;go_wp2_with fail;refine HRD.out.mono ?_;rintro r w2 ⟨rfl,hb2⟩;have hsz2:=hb2.size;have HB2:=Lib.hid (HBE.out.trans (hb2.mono hbs));have HO2:=Lib.hid (Rl.own_below HOW.out hb2);clear hb2;go_wp2_with fail;refine (HEN.out _).mono ?_;rintro r w3 ⟨rfl,hb3⟩;have HO3:=Lib.hid (Rl.own_below HO2.out hb3);have HB3:=Lib.hid (HB2.out.trans (hb3.mono HB2.out.size));clear hb3;go_wp2_with (at_builtin;refine wpList_append_own _ rfl _ _ 30 rfl w.heap.size 78 i0 _ 4 24 Tryz.underlying30 HI.out HZ0.out HZ1.out HZ2.out rfl (by decide) _ k _ rfl (HO3.out.alloc _) ⟨w3.heap.size,0,none⟩ 1 1 [.int .u64 x0,.int .u32 ty,.int .u32 sy,.int .i64 ad] rfl rfl ?d1 ?d2 ?d3 ?d4 ?d5 ?_);case d1=>exact k7_cells_new w3 [.int .u64 x0,.int .u32 ty,.int .u32 sy,.int .i64 ad] _ _ rfl
    case d2=>exact HOC.out
    case d3=>unfold maxLen;omega
    case d4=>omega
    case d5=>have:=HB3.out.size;simp;omega
    intro v4 w4 hown4 hg4 _;have HO4:Hid (w4.ownsRow w.heap.size 78 4 v4 (k+1) (Rl.flat (k7_tabR zs (k+1)))):=Lib.hid (by rw [HTS.out,Rl.flat_snoc];exact hown4);have hb4:Below w.heap.size w w4:=(HB3.out.alloc HB3.out.size _).grown hg4 (by have:=HB3.out.size;simp;omega) (fun q e=>(HO3.out.lt q e).1);clear hown4 hg4;go_wp2;go_roundw
    case rel=>exact ⟨k+1,m-24,cp-24,_,rfl,by omega,by omega,fun h=>by rw [if_neg (by omega),show off+24*k+24=off+24*(k+1) by omega],HO4.out,hb4⟩
    case measure=>(simp [slenL]<;>omega)
   ·obtain rfl:m=0:=by omega
    have hkn:k=n:=by omega
    have HO2:Hid (wr.ownsRow w.heap.size 78 4 _ (k7_tabR zs n).length (Rl.flat (k7_tabR zs n))):=Lib.hid (by rw [HTL.out,←hkn];exact hown);clear hown hbel hkn;go_wp2;go_ret2;exact ⟨⟨_,rfl,HO2.out⟩,HBE.out⟩
 ·have HR:Hid (tabL zs=(10,[])):=Lib.hid (by unfold tabL;rw [HZL.out,if_neg hm]);rw [HR.out];have hmb:((len:Int) % 24 != 0)=true:=by
   rw [bne_iff_ne];omega
  clear hb hm;go_enter Tryz.func105,Tryz.ntmps105
  go_wp2;go_ret2;exact ⟨⟨_,rfl,World.ownsRow_nil _ _ _ _⟩,Below.refl _ _⟩
theorem take_seg {L:List Sg} {q:Nat} (h:q<L.length):(L.take (q+1)).flatMap encS=(L.take q).flatMap encS++encS (L.getD q sg0):=by
 rw [List.take_succ_eq_append_getElem h,List.flatMap_append,List.getD_eq_getElem?_getD,List.getElem?_eq_getElem h];simp
theorem join_seg (B:Nat) (a:Option Addr) (len cap:Nat) (L:List Sg) (w:World) (hs:Sgs w B a len L) (hB:B≤w.heap.size) (hl:len≤1000000) :
 Calls Tryz.prog 72 #[.slice a len cap,.func (.func 73) #[] #[]] w fun r w'=>(∃u,r=.returned u∧w'.ownsRow w.heap.size 5 1 u (L.flatMap encS).length ((L.flatMap encS).map (Value.int .u8)))∧Below w.heap.size w w':=by
 obtain ⟨i0,hi,hz0,hz1,hz2⟩:=info_parts info_u8;have HI:=Lib.hid hi;have HZ0:=Lib.hid hz0;have HZ1:=Lib.hid hz1;have HZ2:=Lib.hid hz2;have HS:=Lib.hid hs;have HLN:=Lib.hid hs.hl;have hli:(len:Int)≤1000000:=by omega
 clear hi hz0 hz1 hz2 hs;go_enter Tryz.func72,Tryz.ntmps72
 go_wp2;go_loopw [5,10] (fun b i wr=>∃(q:Nat) (zs:List Int),q≤len∧i=.int .i64 q∧zs=(L.take q).flatMap encS∧zs.length≤56*q∧wr.ownsRow w.heap.size 5 1 b zs.length (zs.map (Value.int .u8))∧Below w.heap.size w wr) (fun _ i _=>len-(intOf i).toNat)
 case atStart=>exact ⟨0,[],Nat.zero_le _,rfl,by simp,Nat.zero_le _,World.ownsRow_nil _ _ _ _,Below.refl _ _⟩
 case round=>
  obtain ⟨q,zs,hq,rfl,hzs,hzl,hown,hbel⟩:=hrel;have HZL:=Lib.hid hzl;have HO:=Lib.hid hown;have HB:=Lib.hid hbel;have hsz:=hbel.size;obtain ⟨ba,bc,rfl⟩:=own_slice hown;clear hown hzl;by_cases hlt:q<len
  ·obtain ⟨sb,so,rfl,hsB,hsc⟩:=HS.out.hc (by omega);obtain ⟨c0,c1,c2,c3,c4,c5,c6⟩:=(hsc q hlt).below hbel (Nat.lt_of_lt_of_le hsB hB);have hsok:=HS.out.okAt hlt;have hsb:sb<wr.heap.size:=by omega
   have hqi:(q:Int)<len:=by omega
   have HZS:Hid ((L.take (q+1)).flatMap encS=zs++encS (L.getD q sg0)):=Lib.hid (by rw [hzs];exact take_seg (by rw [HLN.out];exact hlt));clear hsc hbel hzs;generalize L.getD q sg0=s at c0 c1 c2 c3 c4 c5 c6 hsok HZS;have HCL:=Lib.hid (fun w1=>k4_put_ok s w1 hsok);have HEL:=Lib.hid (encS_len s);obtain ⟨x0,x1,x2,x3,x4,x5,x6⟩:=s;unfold Sg.val at HCL;simp only at c0 c1 c2 c3 c4 c5 c6 HCL;obtain ⟨E,hE⟩:∃E,encS ⟨x0,x1,x2,x3,x4,x5,x6⟩=E:=⟨_,rfl⟩
   rw [hE] at HCL HZS HEL;clear hsok hE;have HBA:Hid (Below w.heap.size w (wr.alloc (.cells #[.int .u32 x0,.int .u32 x1,.int .u64 x2,.int .u64 x3,.int .u64 x4,.int .u64 x5,.int .u64 x6] 65))):=Lib.hid (HB.out.alloc hsz _);have HOA:=Lib.hid (own_below HO.out ((Below.refl _ _).alloc (Nat.le_refl _) (.cells #[.int .u32 x0,.int .u32 x1,.int .u64 x2,.int .u64 x3,.int .u64 x4,.int .u64 x5,.int .u64 x6] 65)));go_wp2_with fail;refine (HCL.out _).mono ?_;rintro r w2 ⟨⟨u,rfl,ug,uc,rfl,hu1,hu2,hu3⟩,hb2⟩;have HU:=Lib.hid hu3;have HB2:=Lib.hid (HBA.out.trans (hb2.mono HBA.out.size));have HO2:=Lib.hid (own_below HOA.out hb2);have hw2:=HB2.out.size;have HEN:Hid (E.length=56):=HEL;clear hu3 hb2;go_wp2_with (at_builtin;refine wpList_append_bys rfl _ _ 22 rfl w.heap.size 5 i0 (.int .u8 0) 1 Tryz.underlying22 HI.out HZ0.out HZ1.out HZ2.out rfl _ zs.length _ rfl HO2.out _ E.length uc _ E rfl HU.out (fun e=>by cases e) ?e1 ?e2 ?e3 ?_);case e1=>have:=HZL.out;have:=HEN.out;unfold maxLen;omega
   case e2=>have:=HZL.out;have:=HEN.out;omega
   case e3=>exact hw2
   intro v3 w3 hown3 hg3;have HO3:Hid (w3.ownsRow w.heap.size 5 1 v3 (zs++E).length ((zs++E).map (Value.int .u8))):=Lib.hid (by rw [List.length_append,List.map_append];exact hown3);have HB3:Hid (Below w.heap.size w w3):=Lib.hid (HB2.out.grown hg3 hw2 (fun q e=>(HO2.out.lt q e).1));clear hown3 hg3;go_wp2;go_roundw
   case rel=>exact ⟨q+1,zs++E,by omega,by go_num,HZS.out.symm,by have:=HZL.out;have:=HEN.out;rw [List.length_append];omega,HO3.out,HB3.out⟩
   case measure=>(simp [intOf]<;>omega)
  ·obtain rfl:q=len:=by omega
   have HF:Hid (zs=L.flatMap encS):=Lib.hid (by rw [hzs,List.take_of_length_le (by rw [HLN.out];exact Nat.le_refl _)]);clear hbel hzs;go_wp2;go_ret;exact ⟨⟨_,rfl,by rw [←HF.out];exact HO.out⟩,HB.out⟩
theorem take_sym {L:List Sy} {q:Nat} (h:q<L.length):(L.take (q+1)).flatMap encY=(L.take q).flatMap encY++encY (L.getD q Sy.zero):=by
 rw [List.take_succ_eq_append_getElem h,List.flatMap_append,List.getD_eq_getElem?_getD,List.getElem?_eq_getElem h];simp
theorem join_sym (B:Nat) (a:Option Addr) (len cap:Nat) (L:List Sy) (w:World) (hs:Sy.Sl w B a len L) (hB:B≤w.heap.size) (hl:len≤1000000) :
 Calls Tryz.prog 74 #[.slice a len cap,.func (.func 76) #[] #[]] w fun r w'=>(∃u,r=.returned u∧w'.ownsRow w.heap.size 5 1 u (L.flatMap encY).length ((L.flatMap encY).map (Value.int .u8)))∧Below w.heap.size w w':=by
 obtain ⟨i0,hi,hz0,hz1,hz2⟩:=info_parts info_u8;have HI:=Lib.hid hi;have HZ0:=Lib.hid hz0;have HZ1:=Lib.hid hz1;have HZ2:=Lib.hid hz2;have HS:=Lib.hid hs;have HLN:=Lib.hid hs.hl;have hli:(len:Int)≤1000000:=by omega
 clear hi hz0 hz1 hz2 hs;go_enter Tryz.func74,Tryz.ntmps74
 go_wp2;go_loopw [5,10] (fun b i wr=>∃(q:Nat) (zs:List Int),q≤len∧i=.int .i64 q∧zs=(L.take q).flatMap encY∧zs.length≤24*q∧wr.ownsRow w.heap.size 5 1 b zs.length (zs.map (Value.int .u8))∧Below w.heap.size w wr) (fun _ i _=>len-(intOf i).toNat)
 case atStart=>exact ⟨0,[],Nat.zero_le _,rfl,by simp,Nat.zero_le _,World.ownsRow_nil _ _ _ _,Below.refl _ _⟩
 case round=>
  obtain ⟨q,zs,hq,rfl,hzs,hzl,hown,hbel⟩:=hrel;have HZL:=Lib.hid hzl;have HO:=Lib.hid hown;have HB:=Lib.hid hbel;have hsz:=hbel.size;obtain ⟨ba,bc,rfl⟩:=own_slice hown;clear hown hzl;by_cases hlt:q<len
  ·obtain ⟨sb,so,rfl,hsB,hsc⟩:=HS.out.hc (by omega);obtain ⟨c0,c1,c2,c3,c4,c5⟩:=(hsc q hlt).below hbel (Nat.lt_of_lt_of_le hsB hB);have hsok:=HS.out.okAt hlt;have hsb:sb<wr.heap.size:=by omega
   have hqi:(q:Int)<len:=by omega
   have HZS:Hid ((L.take (q+1)).flatMap encY=zs++encY (L.getD q Sy.zero)):=Lib.hid (by rw [hzs];exact take_sym (by rw [HLN.out];exact hlt));clear hsc hbel hzs;generalize L.getD q Sy.zero=s at c0 c1 c2 c3 c4 c5 hsok HZS;have HCL:=Lib.hid (fun w1=>sput_ok s w1 hsok);have HEL:=Lib.hid (encY_len s);obtain ⟨x0,x1,x2,x3,x4,x5⟩:=s;unfold Sy.val at HCL;simp only at c0 c1 c2 c3 c4 c5 HCL;obtain ⟨E,hE⟩:∃E,encY ⟨x0,x1,x2,x3,x4,x5⟩=E:=⟨_,rfl⟩
   rw [hE] at HCL HZS HEL;clear hsok hE;have HBA:Hid (Below w.heap.size w (wr.alloc (.cells #[.int .u32 x0,.int .u8 x1,.int .u8 x2,.int .u16 x3,.int .u64 x4,.int .u64 x5] 76))):=Lib.hid (HB.out.alloc hsz _);have HOA:=Lib.hid (own_below HO.out ((Below.refl _ _).alloc (Nat.le_refl _) (.cells #[.int .u32 x0,.int .u8 x1,.int .u8 x2,.int .u16 x3,.int .u64 x4,.int .u64 x5] 76)));go_wp2_with fail;refine (HCL.out _).mono ?_;rintro r w2 ⟨⟨u,rfl,ug,uc,rfl,hu1,hu2,hu3⟩,hb2⟩;have HU:=Lib.hid hu3;have HB2:=Lib.hid (HBA.out.trans (hb2.mono HBA.out.size));have HO2:=Lib.hid (own_below HOA.out hb2);have hw2:=HB2.out.size;have HEN:Hid (E.length=24):=HEL;clear hu3 hb2;go_wp2_with (at_builtin;refine wpList_append_bys rfl _ _ 22 rfl w.heap.size 5 i0 (.int .u8 0) 1 Tryz.underlying22 HI.out HZ0.out HZ1.out HZ2.out rfl _ zs.length _ rfl HO2.out _ E.length uc _ E rfl HU.out (fun e=>by cases e) ?e1 ?e2 ?e3 ?_);case e1=>have:=HZL.out;have:=HEN.out;unfold maxLen;omega
   case e2=>have:=HZL.out;have:=HEN.out;omega
   case e3=>exact hw2
   intro v3 w3 hown3 hg3;have HO3:Hid (w3.ownsRow w.heap.size 5 1 v3 (zs++E).length ((zs++E).map (Value.int .u8))):=Lib.hid (by rw [List.length_append,List.map_append];exact hown3);have HB3:Hid (Below w.heap.size w w3):=Lib.hid (HB2.out.grown hg3 hw2 (fun q e=>(HO2.out.lt q e).1));clear hown3 hg3;go_wp2;go_roundw
   case rel=>exact ⟨q+1,zs++E,by omega,by go_num,HZS.out.symm,by have:=HZL.out;have:=HEN.out;rw [List.length_append];omega,HO3.out,HB3.out⟩
   case measure=>(simp [intOf]<;>omega)
  ·obtain rfl:q=len:=by omega
   have HF:Hid (zs=L.flatMap encY):=Lib.hid (by rw [hzs,List.take_of_length_le (by rw [HLN.out];exact Nat.le_refl _)]);clear hbel hzs;go_wp2;go_ret;exact ⟨⟨_,rfl,by rw [←HF.out];exact HO.out⟩,HB.out⟩
theorem take_rel {L:List Rl} {q:Nat} (h:q<L.length):(L.take (q+1)).flatMap encL=(L.take q).flatMap encL++encL (L.getD q Rl.zero):=by
 rw [List.take_succ_eq_append_getElem h,List.flatMap_append,List.getD_eq_getElem?_getD,List.getElem?_eq_getElem h];simp
theorem join_rel (B:Nat) (a:Option Addr) (len cap:Nat) (L:List Rl) (w:World) (hs:Rl.Sl w B a len L) (hB:B≤w.heap.size) (hl:len≤1000000) :
 Calls Tryz.prog 77 #[.slice a len cap,.func (.func 79) #[] #[]] w fun r w'=>(∃u,r=.returned u∧w'.ownsRow w.heap.size 5 1 u (L.flatMap encL).length ((L.flatMap encL).map (Value.int .u8)))∧Below w.heap.size w w':=by
 obtain ⟨i0,hi,hz0,hz1,hz2⟩:=info_parts info_u8;have HI:=Lib.hid hi;have HZ0:=Lib.hid hz0;have HZ1:=Lib.hid hz1;have HZ2:=Lib.hid hz2;have HS:=Lib.hid hs;have HLN:=Lib.hid hs.hl;have hli:(len:Int)≤1000000:=by omega
 clear hi hz0 hz1 hz2 hs;go_enter Tryz.func77,Tryz.ntmps77
 go_wp2;go_loopw [5,10] (fun b i wr=>∃(q:Nat) (zs:List Int),q≤len∧i=.int .i64 q∧zs=(L.take q).flatMap encL∧zs.length≤24*q∧wr.ownsRow w.heap.size 5 1 b zs.length (zs.map (Value.int .u8))∧Below w.heap.size w wr) (fun _ i _=>len-(intOf i).toNat)
 case atStart=>exact ⟨0,[],Nat.zero_le _,rfl,by simp,Nat.zero_le _,World.ownsRow_nil _ _ _ _,Below.refl _ _⟩
 case round=>
  obtain ⟨q,zs,hq,rfl,hzs,hzl,hown,hbel⟩:=hrel;have HZL:=Lib.hid hzl;have HO:=Lib.hid hown;have HB:=Lib.hid hbel;have hsz:=hbel.size;obtain ⟨ba,bc,rfl⟩:=own_slice hown;clear hown hzl;by_cases hlt:q<len
  ·obtain ⟨sb,so,rfl,hsB,hsc⟩:=HS.out.hc (by omega);obtain ⟨c0,c1,c2,c3⟩:=(hsc q hlt).below hbel (Nat.lt_of_lt_of_le hsB hB);have hsok:=HS.out.okAt hlt;have hsb:sb<wr.heap.size:=by omega
   have hqi:(q:Int)<len:=by omega
   have HZS:Hid ((L.take (q+1)).flatMap encL=zs++encL (L.getD q Rl.zero)):=Lib.hid (by rw [hzs];exact take_rel (by rw [HLN.out];exact hlt));clear hsc hbel hzs;generalize L.getD q Rl.zero=s at c0 c1 c2 c3 hsok HZS;have HCL:=Lib.hid (fun w1=>lput_ok s w1 hsok);have HEL:=Lib.hid (encL_len s);obtain ⟨x0,x1,x2,x3⟩:=s;unfold Rl.val at HCL;simp only at c0 c1 c2 c3 HCL;obtain ⟨E,hE⟩:∃E,encL ⟨x0,x1,x2,x3⟩=E:=⟨_,rfl⟩
   rw [hE] at HCL HZS HEL;clear hsok hE;have HBA:Hid (Below w.heap.size w (wr.alloc (.cells #[.int .u64 x0,.int .u32 x1,.int .u32 x2,.int .i64 x3] 78))):=Lib.hid (HB.out.alloc hsz _);have HOA:=Lib.hid (own_below HO.out ((Below.refl _ _).alloc (Nat.le_refl _) (.cells #[.int .u64 x0,.int .u32 x1,.int .u32 x2,.int .i64 x3] 78)));go_wp2_with fail;refine (HCL.out _).mono ?_;rintro r w2 ⟨⟨u,rfl,ug,uc,rfl,hu1,hu2,hu3⟩,hb2⟩;have HU:=Lib.hid hu3;have HB2:=Lib.hid (HBA.out.trans (hb2.mono HBA.out.size));have HO2:=Lib.hid (own_below HOA.out hb2);have hw2:=HB2.out.size;have HEN:Hid (E.length=24):=HEL;clear hu3 hb2;go_wp2_with (at_builtin;refine wpList_append_bys rfl _ _ 22 rfl w.heap.size 5 i0 (.int .u8 0) 1 Tryz.underlying22 HI.out HZ0.out HZ1.out HZ2.out rfl _ zs.length _ rfl HO2.out _ E.length uc _ E rfl HU.out (fun e=>by cases e) ?e1 ?e2 ?e3 ?_);case e1=>have:=HZL.out;have:=HEN.out;unfold maxLen;omega
   case e2=>have:=HZL.out;have:=HEN.out;omega
   case e3=>exact hw2
   intro v3 w3 hown3 hg3;have HO3:Hid (w3.ownsRow w.heap.size 5 1 v3 (zs++E).length ((zs++E).map (Value.int .u8))):=Lib.hid (by rw [List.length_append,List.map_append];exact hown3);have HB3:Hid (Below w.heap.size w w3):=Lib.hid (HB2.out.grown hg3 hw2 (fun q e=>(HO2.out.lt q e).1));clear hown3 hg3;go_wp2;go_roundw
   case rel=>exact ⟨q+1,zs++E,by omega,by go_num,HZS.out.symm,by have:=HZL.out;have:=HEN.out;rw [List.length_append];omega,HO3.out,HB3.out⟩
   case measure=>(simp [intOf]<;>omega)
  ·obtain rfl:q=len:=by omega
   have HF:Hid (zs=L.flatMap encL):=Lib.hid (by rw [hzs,List.take_of_length_le (by rw [HLN.out];exact Nat.le_refl _)]);clear hbel hzs;go_wp2;go_ret;exact ⟨⟨_,rfl,by rw [←HF.out];exact HO.out⟩,HB.out⟩
end Go.Proofs.YtclgbdfkdbbinaaGreat
