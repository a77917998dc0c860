/-
  What is proved here: words and contracts, a part of those that the statement rests on (B12).
  Conditions: none but that the arguments are values of their types.
-/
import Derived.Test.YtclgbdfkdbbinaaGreatB0
import Derived.Test.YtclgbdfkdbbinaaGreatB11
import Derived.Test.YtclgbdfkdbbinaaGreatB1
set_option linter.unusedVariables false
set_option linter.unusedSimpArgs false
set_option maxRecDepth 100000
set_option maxHeartbeats 12800000
namespace Go.Proofs.YtclgbdfkdbbinaaGreat
open Go.RowKit
theorem oX (t:Int) (w:World):Calls Tryz.prog 163 #[.int .u32 t] w fun r w'=>r=.returned (.bool (iC t))∧w=w':=by
 obtain ⟨b,hb⟩:∃b,iC t=b:=⟨_,rfl⟩
 rw [hb];have HB:=hZz hb;clear hb;go_enter Tryz.func163,Tryz.ntmps163
 go_wp2;all_goals (try simp only [beq_eq_false_iff_ne,beq_iff_eq,bne_iff_ne,bne_eq_false_iff_eq,ne_eq] at *)
 all_goals go_ret
 all_goals refine ⟨bO ?_,rfl⟩
 all_goals rw [←HB.out]
 all_goals unfold iC
 all_goals first | (symm;rw [decide_eq_true_eq];omega) | (symm;rw [decide_eq_false_iff_not];omega)
def gl (t:Int):Bool:=decide (t=0∨t=8)
theorem oB (t:Int) (w:World):Calls Tryz.prog 164 #[.int .u32 t] w fun r w'=>r=.returned (.bool (gl t))∧w=w':=by
 obtain ⟨b,hb⟩:∃b,gl t=b:=⟨_,rfl⟩
 rw [hb];have HB:=hZz hb;clear hb;go_enter Tryz.func164,Tryz.ntmps164
 go_wp2;all_goals (try simp only [beq_eq_false_iff_ne,beq_iff_eq,bne_iff_ne,bne_eq_false_iff_eq,ne_eq] at *)
 all_goals go_ret
 all_goals refine ⟨bO ?_,rfl⟩
 all_goals rw [←HB.out]
 all_goals unfold gl
 all_goals (rw [Bool.eq_iff_iff];simp only [decide_eq_true_eq,beq_iff_eq,Bool.false_eq_true,Bool.true_eq_false,true_iff,false_iff,iff_true,iff_false])
 all_goals (try rw [Bool.or_eq_true,beq_iff_eq,beq_iff_eq])
 all_goals (try omega)
theorem pr {s:Rl} {n:Int} (hk:iC s.ty=true) (h0:0≤s.sy) :
 (s.sy=0→gl s.ty=false→ej s n=11)∧(s.sy=0→gl s.ty=true→ej s n=0)∧(s.sy≠0→n≤s.sy→ej s n=10)∧
 (s.sy≠0→s.sy<n→gl s.ty=true→ej s n=11)∧(s.sy≠0→s.sy<n→gl s.ty=false→ej s n=0):=by
 have e:ej s n=if 0<s.sy∧(n<0∨n≤s.sy) then 10 else if ((s.ty=0∨s.ty=8)∧s.sy≠0)∨(¬(s.ty=0∨s.ty=8)∧s.sy=0) then 11 else 0:=by
  unfold ej;rw [if_neg (by rw [hk];decide)]
 rw [e];unfold gl;simp only [decide_eq_true_eq,decide_eq_false_iff_not];refine ⟨fun a b=>?_,fun a b=>?_,fun a b=>?_,fun a b c=>?_,fun a b c=>?_⟩
 ·rw [if_neg oZm,if_pos (by omega)]
 ·rw [if_neg oZm,if_neg (by omega)]
 ·rw [if_pos (by omega)]
 ·rw [if_neg oZm,if_pos (by omega)]
 ·rw [if_neg oZm,if_neg (by omega)]
theorem sQ (s:Rl) (n:Int) (w:World) (h:s.Ok) (hn0:-9223372036854775808≤n) (hn1:n≤9223372036854775807) :
 Calls Tryz.prog 147 #[s.val,.int .i64 n] w fun r w'=>r=.returned (.int .i64 (ej s n))∧Below w.heap.size w w':=by
 have hcs:=fun hk=>pr (n:=n) hk h.sy.1;have hbad:iC s.ty=false→ej s n=33:=fun h=>by unfold ej;rw [if_pos h]
 generalize ej s n=r at hcs hbad;have HKN:=hZz (fun w1=>oX s.ty w1);have HAL:=hZz (fun w1=>oB s.ty w1);obtain ⟨⟨a0,a1⟩,⟨b0,b1⟩,⟨c0,c1⟩,⟨d0,d1⟩⟩:=h;obtain ⟨of,ty,sy,ad⟩:=s;unfold Rl.val;simp only at *;have HBE:Hid (∀o,Below w.heap.size w (w.alloc o)):=hZz (fun o=>(Below.refl _ _).alloc (lZr _) o);generalize iC ty=kn at HKN hcs hbad;generalize gl ty=al at HAL hcs;cases kn
 ·obtain rfl:=hbad rfl;clear hcs hbad;go_enter Tryz.func147,Tryz.ntmps147
  go_wp2_with (go_at_call 163;refine (HKN.out _).mono ?_;rintro e w' ⟨rfl,rfl⟩);go_ret;exact ⟨rfl,HBE.out _⟩
 ·obtain ⟨h1,h2,h3,h4,h5⟩:=hcs rfl;clear hcs hbad;by_cases h0:sy=0
  ·subst h0;have hr:r=if al then 0 else 11:=by cases al;exact h1 rfl rfl;exact h2 rfl rfl
   clear h1 h2 h3 h4 h5;cases al
   all_goals obtain rfl:=hr
   all_goals go_enter Tryz.func147,Tryz.ntmps147
   all_goals go_wp2_with (go_at_call 163;refine (HKN.out _).mono ?_;rintro e w' ⟨rfl,rfl⟩)
   all_goals go_quiet (first | (go_at_call 164;refine Calls.quiet_of_same ((HAL.out _).mono fun _ _ h=>⟨h.1,h.2.symm⟩)))
   all_goals go_wp2
   all_goals go_ret
   all_goals exact ⟨rfl,aN (HBE.out _) _⟩
  ·have hs:(sy != 0)=true:=by rw [bne_iff_ne];exact h0
   have hs2:(sy==0)=false:=by rw [beq_eq_false_iff_ne];exact h0
   by_cases hge:n≤sy
   ·obtain rfl:=h3 h0 hge;clear h1 h2 h3 h4 h5 h0;go_enter Tryz.func147,Tryz.ntmps147
    go_wp2_with (go_at_call 163;refine (HKN.out _).mono ?_;rintro e w' ⟨rfl,rfl⟩);go_ret;exact ⟨rfl,HBE.out _⟩
   ·have hr:r=if al then 11 else 0:=by cases al;exact h5 h0 oZm rfl;exact h4 h0 oZm rfl
    clear h1 h2 h3 h4 h5 h0;cases al
    all_goals obtain rfl:=hr
    all_goals go_enter Tryz.func147,Tryz.ntmps147
    all_goals go_wp2_with (go_at_call 163;refine (HKN.out _).mono ?_;rintro e w' ⟨rfl,rfl⟩)
    all_goals go_quiet (first | (go_at_call 164;refine Calls.quiet_of_same ((HAL.out _).mono fun _ _ h=>⟨h.1,h.2.symm⟩)))
    all_goals go_wp2
    all_goals go_ret
    all_goals exact ⟨rfl,aN (HBE.out _) _⟩
theorem pQ (B:Nat) (a:Option Addr) (len cap:Nat) (L:List Rl) (n:Int) (w:World) (hs:Rl.Sl w B a len L) (hB:B≤w.heap.size) (hcap:len≤cap) (hcm:(cap:Int)≤9223372036854775807) (hn0:-9223372036854775808≤n) (hn1:n≤9223372036854775807) :
 Calls Tryz.prog 106 #[.slice a len cap,.int .i64 n] w fun r w'=>r=.returned (.int .i64 (dc L n))∧Below w.heap.size w w':=by
 obtain ⟨r,hr⟩:∃r,dc L n=r:=⟨_,rfl⟩
 rw [hr];have hl:(len:Int)≤9223372036854775807:=by omega
 have HG:Hid ((∀k,k<len→ej (L.getD k Rl.zero) n=0)→r=0):=hZz (fun h=>hr▸jW (by rw [hs.hl];exact h));have HX:Hid (∀k,k<len→(∀j,j<k→ej (L.getD j Rl.zero) n=0)→ej (L.getD k Rl.zero) n≠0→r=ej (L.getD k Rl.zero) n):=hZz (fun k hk h0 h=>hr▸lB (by rw [hs.hl];exact hk) h0 h);have HS:=hZz hs;clear hr hs;go_enter Tryz.func106,Tryz.ntmps106
 go_wp2;go_loopw [6,7,10] (fun _ _ i wr=>∃k:Nat,k≤len∧i=.int .i64 k∧(∀j,j<k→ej (L.getD j Rl.zero) n=0)∧Below w.heap.size w wr) (fun _ _ i _=>len-(intOf i).toNat)
 case atStart=>exact ⟨0,Nat.zero_le _,rfl,fun j hj=>absurd hj oZm,Below.refl _ _⟩
 case round=>
  obtain ⟨k,hk,rfl,hno,hbel⟩:=hrel;by_cases hlt:k<len
  ·obtain ⟨b,off,rfl,hbB,hcell⟩:=HS.out.hc oZm;obtain ⟨c0,c1,c2,c3⟩:=(hcell k hlt).below (hbel.mono hB) hbB;have hok:=HS.out.okAt hlt;have HNX:=hZz (ry hno);have HBD:=hZz (HX.out k hlt hno);have hlti:(k:Int)<len:=by omega
   have hbs:=hbel.size;have HBE:Hid (∀o,Below w.heap.size w (wr.alloc o)):=hZz (fun o=>hbel.alloc hbs o);generalize L.getD k Rl.zero=s at c0 c1 c2 c3 hok HNX HBD;have HV:=hZz (fun w1=>sQ s n w1 hok hn0 hn1);obtain ⟨⟨a0,a1⟩,⟨b0,b1⟩,⟨o0,o1⟩,⟨d0,d1⟩⟩:=hok;obtain ⟨of,ty,sy,ad⟩:=s;unfold Rl.val at HV;simp only at c0 c1 c2 c3 a0 a1 b0 b1 o0 o1 d0 d1 HV;have hbw:b<wr.heap.size:=by omega
   clear hcell hno hbel;generalize ej ⟨of,ty,sy,ad⟩ n=y at HV HBD HNX;by_cases hy:y=0
   ·subst hy;go_wp2_with fail;refine (HV.out _).mono ?_;rintro e w2 ⟨rfl,hb2⟩;have HB2:=hZz ((HBE.out _).trans (hb2.mono (by simp;omega)));clear hb2;go_wp2;go_roundw
    case rel=>exact ⟨k+1,by omega,by go_num,HNX.out (by trivial),HB2.out⟩
    case measure=>(simp [intOf]<;>omega)
   ·have hyb:(y != 0)=true:=by rw [bne_iff_ne];exact hy
    have HRY:=hZz (HBD.out hy);clear hy;go_wp2_with fail;refine (HV.out _).mono ?_;rintro e w2 ⟨rfl,hb2⟩;have HB2:=hZz ((HBE.out _).trans (hb2.mono (by simp;omega)));clear hb2;go_wp2;go_ret;exact ⟨kK HRY.out.symm,HB2.out⟩
  ·obtain rfl:k=len:=by omega
   have HB:=hZz hbel;have HN:=hZz (HG.out hno);clear hbel hno;go_wp2;go_ret;exact ⟨kK HN.out.symm,HB.out⟩
theorem Blk.c3 {w:World} {g:Nat} {v0 v1 v2:Value} {t:TypeId} (h:Blk w g #[v0,v1,v2] t) :
 w.cell? ⟨g,0,none⟩=some v0∧w.cell? ⟨g,1,none⟩=some v1∧w.cell? ⟨g,2,none⟩=some v2:=⟨h.cell 0,h.cell 1,h.cell 2⟩
theorem Blk.f3 {w:World} {g:Nat} {v0 v1 v2:Value} {t:TypeId} (h:Blk w g #[v0,v1,v2] t) :
 w.frozen? ⟨g,0,none⟩=false∧w.frozen? ⟨g,1,none⟩=false∧w.frozen? ⟨g,2,none⟩=false:=⟨h.frozen 0,h.frozen 1,h.frozen 2⟩
theorem fe {zs:List Int} {p n q k:Nat} (h:q+k≤n):am (am zs p n) q k=am zs (p+q) k:=by
 unfold am;rw [List.drop_take,List.take_take,List.drop_drop,Nat.min_eq_left (by omega)]
theorem tQ (B:Nat) (a:Option Addr) (len cap:Nat) (zs:List Int) (w:World) (hb:Bys w B a len zs) (hB:B≤w.heap.size) (hl:(len:Int)≤9223372036854775807) (hs:24≤len) :
 Calls Tryz.prog 146 #[.slice a len cap] w fun r w'=>r=.returned (.agg #[.int .u64 (num (am zs 0 8)),.int .u64 (num (am zs 8 8)),.int .u64 (num (am zs 16 8))])∧Below w.heap.size w w':=by
 have HB:=hZz hb;obtain ⟨x0,h0⟩:∃x,num (am zs 0 8)=x:=⟨_,rfl⟩
 obtain ⟨x1,h1⟩:∃x,num (am zs 8 8)=x:=⟨_,rfl⟩
 obtain ⟨x2,h2⟩:∃x,num (am zs 16 8)=x:=⟨_,rfl⟩
 rw [h0,h1,h2];have HG:Hid (∀w1,Below w.heap.size w w1→
  Calls Tryz.prog 131 #[.slice a len cap,.int .u64 0,.int .i64 8] w1 (fun e w'=>e=.returned (.tuple #[.int .u64 x0,.int .i64 0])∧w1=w')∧
  Calls Tryz.prog 131 #[.slice a len cap,.int .u64 8,.int .i64 8] w1 (fun e w'=>e=.returned (.tuple #[.int .u64 x1,.int .i64 0])∧w1=w')∧
  Calls Tryz.prog 131 #[.slice a len cap,.int .u64 16,.int .i64 8] w1 (fun e w'=>e=.returned (.tuple #[.int .u64 x2,.int .i64 0])∧w1=w')):=hZz (fun w1 hw=>by
  have hq:=hb.below (hw.mono hB);rw [←h0,←h1,←h2];exact ⟨iz B a len cap zs 0 8 w1 hq dZc hl oZm,iz B a len cap zs 8 8 w1 hq dZc hl oZm,iz B a len cap zs 16 8 w1 hq dZc hl oZm⟩)
 have HL0:Hid (Blk ((w.alloc (.cells #[.int .u64 0,.int .u64 0,.int .u64 0] 184)).alloc (.cells #[.int .u64 0,.int .u64 0,.int .u64 0] 184)) w.heap.size #[.int .u64 0,.int .u64 0,.int .u64 0] 184):=hZz ((Blk.new w _ _).alloc _);have HL1:Hid (Blk ((w.alloc (.cells #[.int .u64 0,.int .u64 0,.int .u64 0] 184)).alloc (.cells #[.int .u64 0,.int .u64 0,.int .u64 0] 184)) (w.heap.size+1) #[.int .u64 0,.int .u64 0,.int .u64 0] 184):=hZz (by
  have:=Blk.new (w.alloc (.cells #[.int .u64 0,.int .u64 0,.int .u64 0] 184)) #[.int .u64 0,.int .u64 0,.int .u64 0] 184;rw [World.size_alloc] at this;exact this)
 have HBL:Hid (Below w.heap.size w ((w.alloc (.cells #[.int .u64 0,.int .u64 0,.int .u64 0] 184)).alloc (.cells #[.int .u64 0,.int .u64 0,.int .u64 0] 184))):=hZz (((Below.refl _ _).alloc (lZr _) _).alloc (by simp) _);clear hb h0 h1 h2;go_enter Tryz.func146,Tryz.ntmps146
 go_wp2;go_loopw [4,5] (fun _ i wr=>∃k:Nat,k≤3∧i=.int .i64 k∧Blk wr w.heap.size #[.int .u64 0,.int .u64 0,.int .u64 0] 184∧Blk wr (w.heap.size+1) #[.int .u64 (if 0<k then x0 else 0),.int .u64 (if 1<k then x1 else 0),.int .u64 (if 2<k then x2 else 0)] 184∧Below w.heap.size w wr) (fun _ i _=>3-(intOf i).toNat)
 case atStart=>exact ⟨0,Nat.zero_le _,rfl,HL0.out,HL1.out,HBL.out⟩
 case round=>
  obtain ⟨k,hk,rfl,hr,hx,hbel⟩:=hrel;have hor:k=0∨k=1∨k=2∨k=3:=by omega
  obtain ⟨G0,G1,G2⟩:=HG.out _ hbel;have hbs:=hbel.size;rcases hor with rfl | rfl | rfl | rfl
  ·rw [show ((0:Nat):Int)=0 from rfl];have hx':Blk wr (w.heap.size+1) #[.int .u64 0,.int .u64 0,.int .u64 0] 184:=hx;obtain ⟨c0,c1,c2⟩:=hx'.c3;obtain ⟨f0,f1,f2⟩:=hx'.f3;have HR:=hZz (hr.setOther (a:=⟨w.heap.size+1,0,none⟩) (Nat.ne_of_lt (Nat.lt_succ_self _)) (.int .u64 x0));have HX:=hZz (hx'.set 0 (.int .u64 x0));have HE:=hZz (hbel.setCell (p:=⟨w.heap.size+1,0,none⟩) (Nat.le_succ _) (.int .u64 x0));have H0:=hZz G0;clear hr hx hx' hbel G0 G1 G2;go_wp2_with (go_at_call 131;with_reducible refine H0.out.mono ?_;rintro e w' ⟨rfl,rfl⟩);go_roundw
   case rel=>exact ⟨1,by omega,by go_num,HR.out,HX.out,HE.out⟩
   case measure=>(simp [intOf]<;>omega)
  ·rw [show ((1:Nat):Int)=1 from rfl];have hx':Blk wr (w.heap.size+1) #[.int .u64 x0,.int .u64 0,.int .u64 0] 184:=hx;obtain ⟨c0,c1,c2⟩:=hx'.c3;obtain ⟨f0,f1,f2⟩:=hx'.f3;have HR:=hZz (hr.setOther (a:=⟨w.heap.size+1,1,none⟩) (Nat.ne_of_lt (Nat.lt_succ_self _)) (.int .u64 x1));have HX:=hZz (hx'.set 1 (.int .u64 x1));have HE:=hZz (hbel.setCell (p:=⟨w.heap.size+1,1,none⟩) (Nat.le_succ _) (.int .u64 x1));have H0:=hZz G1;clear hr hx hx' hbel G0 G1 G2;go_wp2_with (go_at_call 131;with_reducible refine H0.out.mono ?_;rintro e w' ⟨rfl,rfl⟩);go_roundw
   case rel=>exact ⟨2,by omega,by go_num,HR.out,HX.out,HE.out⟩
   case measure=>(simp [intOf]<;>omega)
  ·rw [show ((2:Nat):Int)=2 from rfl];have hx':Blk wr (w.heap.size+1) #[.int .u64 x0,.int .u64 x1,.int .u64 0] 184:=hx;obtain ⟨c0,c1,c2⟩:=hx'.c3;obtain ⟨f0,f1,f2⟩:=hx'.f3;have HR:=hZz (hr.setOther (a:=⟨w.heap.size+1,2,none⟩) (Nat.ne_of_lt (Nat.lt_succ_self _)) (.int .u64 x2));have HX:=hZz (hx'.set 2 (.int .u64 x2));have HE:=hZz (hbel.setCell (p:=⟨w.heap.size+1,2,none⟩) (Nat.le_succ _) (.int .u64 x2));have H0:=hZz G2;clear hr hx hx' hbel G0 G1 G2;go_wp2_with (go_at_call 131;with_reducible refine H0.out.mono ?_;rintro e w' ⟨rfl,rfl⟩);go_roundw
   case rel=>exact ⟨3,by omega,by go_num,HR.out,HX.out,HE.out⟩
   case measure=>(simp [intOf]<;>omega)
  ·rw [show ((3:Nat):Int)=3 from rfl];have hx':Blk wr (w.heap.size+1) #[.int .u64 x0,.int .u64 x1,.int .u64 x2] 184:=hx;obtain ⟨c0,c1,c2⟩:=hx'.c3;obtain ⟨q0,q1,q2⟩:=hr.c3;obtain ⟨f0,f1,f2⟩:=hr.f3;have HE:=hZz hbel;clear hr hx hx' hbel G0 G1 G2;go_wp2;refine bodyPost_ret (v:=.agg #[.int .u64 x0,.int .u64 x1,.int .u64 x2]) (by simp [results,Tryz.results146,go_sem,q0,q1,q2]) rfl ⟨rfl,?_⟩;exact ((HE.out.setCell (lZr _) _).setCell (lZr _) _).setCell (lZr _) _
theorem uF {ty sy:Int} (t0:0≤ty) (t1:ty≤4294967295) (s0:0≤sy) (s1:sy≤4294967295):bits .or .u64 (sy*4294967296) ty=ty+sy*4294967296:=by
 obtain ⟨ty,rfl⟩:=Int.eq_ofNat_of_zero_le t0;obtain ⟨sy,rfl⟩:=Int.eq_ofNat_of_zero_le s0;have e:((sy:Int)*4294967296)=((sy*4294967296:Nat):Int):=by omega
 rw [e,u64_or_nat _ _ oZm oZm,nat_join 32 (sy*4294967296) ty (Nat.mul_mod_left _ _) (by omega)];omega
theorem rq (s:Rl) (w:World) (h:s.Ok) :
 Calls Tryz.prog 130 #[s.val] w fun r w'=>r=.returned (.agg #[.int .u64 s.of,.int .u64 (gB s),.int .u64 (IntKind.u64.wrap s.ad)])∧Below w.heap.size w w':=by
 obtain ⟨⟨a0,a1⟩,⟨b0,b1⟩,⟨c0,c1⟩,⟨d0,d1⟩⟩:=h;obtain ⟨of,ty,sy,ad⟩:=s;unfold Rl.val gB;simp only at *;have HBL2:Hid (∀o o',Below w.heap.size w ((w.alloc o).alloc o')):=hZz (fun o o'=>((Below.refl _ _).alloc (lZr _) o).alloc (by simp) o');have HOR:=hZz (uF b0 b1 c0 c1);go_enter Tryz.func130,Tryz.ntmps130
 go_wp2;refine bodyPost_ret (v:=.agg #[.int .u64 of,.int .u64 (ty+sy*4294967296),.int .u64 (IntKind.u64.wrap ad)]) (by simp [results,Tryz.results130,go_sem];exact HOR.out) rfl ⟨rfl,?_⟩;exact HBL2.out _ _
theorem rj (x0 x1 x2:Int) (w:World) (a0:0≤x0) (a1:x0≤18446744073709551615) (b0:0≤x1) (b1:x1≤18446744073709551615) (c0:0≤x2) (c1:x2≤18446744073709551615) :
 Calls Tryz.prog 145 #[.agg #[.int .u64 x0,.int .u64 x1,.int .u64 x2]] w fun r w'=>r=.returned (Rl.val ⟨x0,x1 % 4294967296,x1 / 4294967296,IntKind.i64.wrap x2⟩)∧Below w.heap.size w w':=by
 have HBL2:Hid (∀o o',Below w.heap.size w ((w.alloc o).alloc o')):=hZz (fun o o'=>((Below.refl _ _).alloc (lZr _) o).alloc (by simp) o');unfold Rl.val;simp only
 go_enter Tryz.func145,Tryz.ntmps145
 go_wp2;refine bodyPost_ret (v:=.agg #[.int .u64 x0,.int .u32 (x1 % 4294967296),.int .u32 (x1 / 4294967296),.int .i64 (IntKind.i64.wrap x2)]) (by simp [results,Tryz.results145,go_sem];exact (IntWalk.i64_left _).symm) rfl ⟨rfl,?_⟩;exact HBL2.out _ _
theorem mJ {A:List Int} {m p k:Nat} (x:Int) (hp:A.length=p):gp (A++List.replicate m 0) p x k=(A++ai x k)++List.replicate (m-k) 0:=by
 subst hp;unfold gp;rw [List.take_left,List.drop_append];rw [List.drop_eq_nil_of_le oZm,List.nil_append,Nat.add_sub_cancel_left,List.drop_replicate,List.append_assoc]
theorem jp {A:List Int} (x:Int) (k:Nat) (h:∀n∈A,0≤n∧n≤255):∀n∈A++ai x k,0≤n∧n≤255:=by
 intro n hn;rcases List.mem_append.1 hn with h1 | h1
 ·exact h n h1
 ·exact bE x k n h1
theorem mm {A:List Int} (m:Nat) (h:∀n∈A,0≤n∧n≤255):∀n∈A++List.replicate m 0,0≤n∧n≤255:=by
 intro n hn;rcases List.mem_append.1 hn with h1 | h1
 ·exact h n h1
 ·rw [List.eq_of_mem_replicate h1];decide
theorem jw (base:Nat) (g:Nat) (A:List Int) (x:Int) (w:World) (p:Nat) (hp:A.length=p) (hA:∀n∈A,0≤n∧n≤255) (ho:w.ownsRow base 5 1 (.slice (some ⟨g,0,none⟩) 24 24) 24 ((A++List.replicate (24-p) 0).map (Value.int .u8))) (hb:base≤w.heap.size) (hs:p+8≤24) (x0:0≤x) (x1:x≤18446744073709551615) :
 Calls Tryz.prog 129 #[.slice (some ⟨g,0,none⟩) 24 24,.int .u64 p,.int .i64 8,.int .u64 x] w fun r w'=>(∃g',r=.returned (.tuple #[.slice (some ⟨g',0,none⟩) 24 24,.int .i64 0])∧w'.ownsRow base 5 1 (.slice (some ⟨g',0,none⟩) 24 24) 24 (((A++ai x 8)++List.replicate (24-(p+8)) 0).map (Value.int .u8)))∧Below base w w':=by
 have h:=kC w.heap.size (some ⟨g,0,none⟩) 24 24 _ p 8 x w (Bys.own (mm _ hA) ho) (lZr _) dZc dZc hs x0 x1;rw [mJ x hp] at h;refine h.mono ?_;rintro r w' ⟨rfl,hown,hbel⟩;refine ⟨⟨_,rfl,?_⟩,hbel.mono hb⟩;rw [Nat.sub_sub] at hown;exact bL hown hb
def fg (s:Rl):Nat→List Int
 | 0=>[]
 | 1=>ai s.of 8
 | 2=>ai s.of 8++ai (gB s) 8
 | _=>ai s.of 8++ai (gB s) 8++ai (IntKind.u64.wrap s.ad) 8
theorem rf (s:Rl):∀k,k≤3→(fg s k).length=8*k
 | 0,_=>rfl
 | 1,_=>by simp [fg,ay]
 | 2,_=>by simp [fg,ay]
 | 3,_=>by simp [fg,ay]
theorem tF (s:Rl):∀k,k≤3→∀n∈fg s k,0≤n∧n≤255
 | 0,_=>fun n h=>by cases h
 | 1,_=>bE _ _
 | 2,_=>jp _ _ (bE _ _)
 | 3,_=>jp _ _ (jp _ _ (bE _ _))
theorem vn (s:Rl) (w:World) (h:s.Ok) :
 Calls Tryz.prog 79 #[s.val] w fun r w'=>(∃u,r=.returned u∧qD (bP s) u w')∧Below w.heap.size w w':=by
 obtain ⟨i0,hi,hz0,hz1,hz2⟩:=info_parts aM;have HI:=hZz hi;have HZ0:=hZz hz0;have HZ1:=hZz hz1;have HZ2:=hZz hz2;have HE:Hid (fg s 3=bP s):=hZz (by simp [fg,bP]);have HEB:=hZz (gw s);have HEL:=hZz (dW s);have HL:=hZz (rf s);have HD:=hZz (tF s);have i0':0≤gB s:=by unfold gB;have:=h.ty;have:=h.sy;omega
 have i1':gB s≤18446744073709551615:=by unfold gB;have:=h.ty;have:=h.sy;omega
 have u0:0≤IntKind.u64.wrap s.ad:=by rw [IntKind.wrap_u64];omega
 have u1:IntKind.u64.wrap s.ad≤18446744073709551615:=by rw [IntKind.wrap_u64];omega
 have HW:=hZz (fun w1=>rq s w1 h);have HP0:Hid (fg s 0=[]):=hZz rfl;have H1:Hid (fg s 1=fg s 0++ai s.of 8):=hZz rfl;have H2:Hid (fg s 2=fg s 1++ai (gB s) 8):=hZz rfl;have H3:Hid (fg s 3=fg s 2++ai (IntKind.u64.wrap s.ad) 8):=hZz rfl;obtain ⟨o0,o1⟩:=h.of;generalize hP:fg s=P at *;generalize bP s=zs at *;generalize gB s=y at *;generalize IntKind.u64.wrap s.ad=z at *;clear h hi hz0 hz1 hz2 hP;obtain ⟨of,ty,sy,ad⟩:=s;unfold Rl.val at *;simp only at *;go_enter Tryz.func79,Tryz.ntmps79
 go_wp2_with (at_make;refine wpList_make_full _ rfl _ _ 22 rfl (w.heap.size+1) 5 i0 (.int .u8 0) 1 Tryz.underlying22 HI.out HZ0.out HZ1.out .i64 .i64 _ _ 24 rfl rfl rfl rfl ?c1 ?c2 ?c3 ?_);case c1=>rw [HZ2.out];omega
 case c2=>unfold maxLen;omega
 case c3=>simp
 intro w1 hown hg;have hb1:Below w.heap.size w w1:=((Below.refl _ _).alloc (lZr _) _).grown hg (by simp) (fun _ e=>by cases e);have hbx:=(Blk.new w #[.int .u64 of,.int .u32 ty,.int .u32 sy,.int .i64 ad] 78).grown hg (by simp);obtain ⟨q0,q1,q2,q3⟩:=Rl.cs hbx;have hgb:w.heap.size≤w1.heap.size:=hb1.size;have HO0:Hid (∃g,(Value.slice (some ⟨w.heap.size+1,0,none⟩) 24 24)=.slice (some ⟨g,0,none⟩) 24 24∧w1.ownsRow w.heap.size 5 1 (.slice (some ⟨g,0,none⟩) 24 24) 24 ((P 0++List.replicate (24-8*0) 0).map (Value.int .u8))):=hZz (by
  rw [toList_madeCells_one] at hown;have e:(P 0++List.replicate (24-8*0) (0:Int)).map (Value.int .u8)=List.replicate 24 (.int .u8 0):=by rw [HP0.out];simp
  rw [e];exact ⟨_,rfl,bL hown (Nat.le_succ _)⟩)
 have HB1:=hZz hb1;clear hown hg hb1 hbx;go_wp2_with fail;refine (HW.out _).mono ?_;rintro r w2 ⟨rfl,hb2⟩;have HB2:=hZz (HB1.out.trans (hb2.mono hgb));have HO2:Hid (∃g,(Value.slice (some ⟨w.heap.size+1,0,none⟩) 24 24)=.slice (some ⟨g,0,none⟩) 24 24∧w2.ownsRow w.heap.size 5 1 (.slice (some ⟨g,0,none⟩) 24 24) 24 ((P 0++List.replicate (24-8*0) 0).map (Value.int .u8))):=hZz (by
  obtain ⟨g,e,h⟩:=HO0.out;exact ⟨g,e,own_below h hb2⟩)
 clear hb2 q0 q1 q2 q3 HO0;have ia0:∀w,(Instr.index 184 (.agg #[.int .u64 of,.int .u64 y,.int .u64 z]) (.int .i64 0)).run Tryz.prog w=.ok (.int .u64 of) w:=fun _=>by kernel_rfl
 have ia1:∀w,(Instr.index 184 (.agg #[.int .u64 of,.int .u64 y,.int .u64 z]) (.int .i64 1)).run Tryz.prog w=.ok (.int .u64 y) w:=fun _=>by kernel_rfl
 have ia2:∀w,(Instr.index 184 (.agg #[.int .u64 of,.int .u64 y,.int .u64 z]) (.int .i64 2)).run Tryz.prog w=.ok (.int .u64 z) w:=fun _=>by kernel_rfl
 go_wp2;go_loopw [3,4,5,9] (fun b _ _ i wr=>∃k g:Nat,k≤3∧i=.int .i64 k∧b=.slice (some ⟨g,0,none⟩) 24 24∧wr.ownsRow w.heap.size 5 1 (.slice (some ⟨g,0,none⟩) 24 24) 24 ((P k++List.replicate (24-8*k) 0).map (Value.int .u8))∧Below w.heap.size w wr) (fun _ _ _ i _=>3-(intOf i).toNat)
 case atStart=>
  obtain ⟨g,e,h⟩:=HO2.out;exact ⟨0,g,Nat.zero_le _,rfl,e,h,HB2.out⟩
 case round=>
  obtain ⟨k,g,hk,rfl,rfl,hown,hbel⟩:=hrel;have hor:k=0∨k=1∨k=2∨k=3:=by omega
  rcases hor with rfl | rfl | rfl | rfl
  ·have HS:=hZz (jw w.heap.size g (P 0) of wr 0 (HL.out 0 dZc) (HD.out 0 dZc) hown hbel.size dZc o0 o1);rw [show ((0:Nat):Int)=0 from rfl];have HBE:=hZz hbel;clear hown hbel;go_wp2_with (go_at_call 129;refine HS.out.mono ?_;rintro r w3 ⟨⟨g',rfl,ho⟩,hb3⟩);have HO3:=hZz ho;have HB3:=hZz (HBE.out.trans hb3);clear ho hb3;go_wp2;go_roundw
   case rel=>exact ⟨1,g',by omega,by go_num,rfl,by rw [H1.out];exact HO3.out,HB3.out⟩
   case measure=>(simp [intOf]<;>omega)
  ·have HS:=hZz (jw w.heap.size g (P 1) y wr 8 (HL.out 1 dZc) (HD.out 1 dZc) hown hbel.size dZc i0' i1');rw [show ((1:Nat):Int)=1 from rfl];have HBE:=hZz hbel;clear hown hbel;go_wp2_with (go_at_call 129;refine HS.out.mono ?_;rintro r w3 ⟨⟨g',rfl,ho⟩,hb3⟩);have HO3:=hZz ho;have HB3:=hZz (HBE.out.trans hb3);clear ho hb3;go_wp2;go_roundw
   case rel=>exact ⟨2,g',by omega,by go_num,rfl,by rw [H2.out];exact HO3.out,HB3.out⟩
   case measure=>(simp [intOf]<;>omega)
  ·have HS:=hZz (jw w.heap.size g (P 2) z wr 16 (HL.out 2 dZc) (HD.out 2 dZc) hown hbel.size dZc u0 u1);rw [show ((2:Nat):Int)=2 from rfl];have HBE:=hZz hbel;clear hown hbel;go_wp2_with (go_at_call 129;refine HS.out.mono ?_;rintro r w3 ⟨⟨g',rfl,ho⟩,hb3⟩);have HO3:=hZz ho;have HB3:=hZz (HBE.out.trans hb3);clear ho hb3;go_wp2;go_roundw
   case rel=>exact ⟨3,g',by omega,by go_num,rfl,by rw [H3.out];exact HO3.out,HB3.out⟩
   case measure=>(simp [intOf]<;>omega)
  ·rw [show ((3:Nat):Int)=3 from rfl];have HO3:=hZz hown;have HBE:=hZz hbel;clear hown hbel;go_wp2;go_ret;refine ⟨⟨_,rfl,?_⟩,HBE.out⟩;have h:=HO3.out;rw [HE.out] at h;have e:(zs++List.replicate (24-8*3) (0:Int))=zs:=by simp
   rw [e,←HEL.out] at h;exact nS (by rw [HEL.out] at h⊢;exact h) (by rw [HEL.out];decide) HEB.out
def vJ:Value→Nat
 | .slice _ m _=>m
 | _=>0
theorem pA (B:Nat) (a:Option Addr) (len cap:Nat) (zs:List Int) (w:World) (hb:Bys w B a len zs) (hB:B≤w.heap.size) (hl:len≤140737488355328) (hcap:len≤cap) (hcm:(cap:Int)≤9223372036854775807) :
 Calls Tryz.prog 105 #[.slice a len cap] w fun r w'=>(∃u,r=.returned (.tuple #[u,.int .i64 (fq zs).1])∧w'.ownsRow w.heap.size 78 4 u (fq zs).2.length (Rl.flat (fq zs).2))∧Below w.heap.size w w':=by
 obtain ⟨i0,hi,hz0,hz1,hz2⟩:=info_parts oh;have HI:=hZz hi;have HZ0:=hZz hz0;have HZ1:=hZz hz1;have HZ2:=hZz hz2;have HZB:=hZz hb.2.1;have HZL:=hZz hb.1;have HBY:=hZz hb;have hli:(len:Int)≤140737488355328:=by omega
 obtain ⟨g0,off,HA⟩:∃g0 off,Hid (0<len→a=some ⟨g0,off,none⟩∧g0<B):=by
  by_cases h0:0<len
  ·obtain ⟨b,off,e,h1,_⟩:=hb.2.2 h0;exact ⟨b,off,hZz (fun _=>⟨e,h1⟩)⟩
  ·exact ⟨0,0,hZz (fun h=>absurd h h0)⟩
 clear hi hz0 hz1 hz2;by_cases hm:len % 24=0
 ·have HR:Hid (fq zs=(0,cy zs (len / 24))):=hZz (by unfold fq;rw [HZL.out,if_pos hm]);rw [HR.out];have hmi:(len:Int) % 24=0:=by omega
  have HTL:=hZz (nD zs (len / 24));obtain ⟨n,hn⟩:∃n,len / 24=n:=⟨_,rfl⟩
  have hni:(len:Int) / 24=(n:Int):=by omega
  rw [hn] at HTL HR⊢;have hln1:len≤24*n:=by omega
  have hln2:24*n≤len:=by omega
  clear hb hn hm;go_enter Tryz.func105,Tryz.ntmps105
  go_wp2_with (at_make;refine wpList_make_own _ rfl _ _ 30 rfl w.heap.size 78 i0 _ 4 Tryz.underlying30 HI.out HZ0.out HZ1.out .i64 .i64 _ n rfl rfl rfl ?c1 ?c2 ?c3 ?_);case c1=>rw [HZ2.out];omega
  case c2=>unfold maxLen;omega
  case c3=>exact lZr _
  intro w1 hown1 hg1;have hbw1:Below w.heap.size w w1:=(Below.refl _ _).grown hg1 (lZr _) (fun _ e=>by cases e);have HO1:=hZz hown1;have HB1:=hZz hbw1;clear hown1 hg1 hbw1;go_wp2;go_loopw [0,4] (fun b v wr=>∃(k m cp:Nat) (ad:Option Addr),b=.slice ad m cp∧24*k+m=len∧24*k+cp=cap∧(0<m→ad=some ⟨g0,off+24*k,none⟩)∧wr.ownsRow w.heap.size 78 4 v k (Rl.flat (cy zs k))∧Below w.heap.size w wr) (fun b _ _=>vJ b)
  case atStart=>exact ⟨0,len,cap,a,rfl,by omega,by omega,fun h=>(HA.out h).1,HO1.out,HB1.out⟩
  case round=>
   obtain ⟨k,m,cp,ad,rfl,hm,hcp,had,hown,hbel⟩:=hrel;have hbs:=hbel.size;have HOW:=hZz hown;have HBE:=hZz hbel;by_cases hlt:0<m
   ·obtain rfl:=had hlt;have hmm:24≤m:=by omega
    have hmi2:(0:Int)<m:=by omega
    have hmi3:(24:Int)≤m:=by omega
    have hcpi:(m:Int)≤cp:=by omega
    have hcpm:(cp:Int)≤9223372036854775807:=by omega
    have hrd:24*k+24≤zs.length:=by have:=HZL.out;omega
    have HBYW:Hid (Bys wr B (some ⟨g0,off+24*k,none⟩) m (am zs (24*k) m)):=hZz (by
     have h:=HBY.out.below (hbel.mono hB);rw [(HA.out oZm).1] at h;exact h.sub oZm)
    obtain ⟨x0,hx0⟩:∃x,num (am zs (24*k) 8)=x:=⟨_,rfl⟩
    obtain ⟨x1,hx1⟩:∃x,num (am zs (24*k+8) 8)=x:=⟨_,rfl⟩
    obtain ⟨x2,hx2⟩:∃x,num (am zs (24*k+16) 8)=x:=⟨_,rfl⟩
    have HRD:Hid (Calls Tryz.prog 146 #[.slice (some ⟨g0,off+24*k,none⟩) m cp] wr fun r w'=>r=.returned (.agg #[.int .u64 x0,.int .u64 x1,.int .u64 x2])∧Below wr.heap.size wr w'):=hZz (by
     have h:=tQ B _ m cp _ wr HBYW.out (Nat.le_trans hB hbs) oZm hmm;rw [fe oZm,fe oZm,fe oZm,Nat.add_zero,hx0,hx1,hx2] at h;exact h)
    have HTS:Hid (cy zs (k+1)=cy zs k++[⟨x0,x1 % 4294967296,x1 / 4294967296,IntKind.i64.wrap x2⟩]):=hZz (by
     rw [rM,←hx0,←hx1,←hx2];rfl)
    have hbd:∀{p:Nat},p+8≤zs.length→0≤num (am zs p 8)∧num (am zs p 8)≤18446744073709551615:=fun {p} hp=>by
     have:=aB (p:=p) (k:=8) HZB.out hp;omega
    obtain ⟨p0,p1⟩:=hbd (p:=24*k) oZm;obtain ⟨p2,p3⟩:=hbd (p:=24*k+8) oZm;obtain ⟨p4,p5⟩:=hbd (p:=24*k+16) oZm;rw [hx0] at p0 p1;rw [hx1] at p2 p3;rw [hx2] at p4 p5;have HEN:=hZz (fun w1=>rj x0 x1 x2 w1 p0 p1 p2 p3 p4 p5);unfold Rl.val at HEN;simp only at HEN;have HOC:=hZz (mA ⟨x0,x1 % 4294967296,x1 / 4294967296,IntKind.i64.wrap x2⟩);generalize IntKind.i64.wrap x2=ad at HEN HOC HTS;generalize x1 % 4294967296=ty at HEN HOC HTS;generalize x1 / 4294967296=sy at HEN HOC HTS;have hkn:(k:Int)≤140737488355328:=by omega
    clear hown hbel hx0 hx1 hx2 p0 p1 p2 p3 p4 p5 hbd HBYW hrd;go_wp2_with fail;refine HRD.out.mono ?_;rintro r w2 ⟨rfl,hb2⟩;have hsz2:=hb2.size;have HB2:=hZz (HBE.out.trans (hb2.mono hbs));have HO2:=hZz (Rl.own_below HOW.out hb2);clear hb2;go_wp2_with fail;refine (HEN.out _).mono ?_;rintro r w3 ⟨rfl,hb3⟩;have HO3:=hZz (Rl.own_below HO2.out hb3);have HB3:=hZz (HB2.out.trans (hb3.mono HB2.out.size));clear hb3;go_wp2_with (at_builtin;refine wpList_append_own _ rfl _ _ 30 rfl w.heap.size 78 i0 _ 4 24 Tryz.underlying30 HI.out HZ0.out HZ1.out HZ2.out rfl dZc _ k _ rfl (HO3.out.alloc _) ⟨w3.heap.size,0,none⟩ 1 1 [.int .u64 x0,.int .u32 ty,.int .u32 sy,.int .i64 ad] rfl rfl ?d1 ?d2 ?d3 ?d4 ?d5 ?_);case d1=>exact mH w3 [.int .u64 x0,.int .u32 ty,.int .u32 sy,.int .i64 ad] _ _ rfl
    case d2=>exact HOC.out
    case d3=>unfold maxLen;omega
    case d4=>omega
    case d5=>have:=HB3.out.size;simp;omega
    intro v4 w4 hown4 hg4 _;have HO4:Hid (w4.ownsRow w.heap.size 78 4 v4 (k+1) (Rl.flat (cy zs (k+1)))):=hZz (by rw [HTS.out,Rl.flat_snoc];exact hown4);have hb4:Below w.heap.size w w4:=(HB3.out.alloc HB3.out.size _).grown hg4 (by have:=HB3.out.size;simp;omega) (fun q e=>(HO3.out.lt q e).1);clear hown4 hg4;go_wp2;go_roundw
    case rel=>exact ⟨k+1,m-24,cp-24,_,rfl,by omega,by omega,fun h=>by rw [if_neg oZm,show off+24*k+24=off+24*(k+1) by omega],HO4.out,hb4⟩
    case measure=>(simp [vJ]<;>omega)
   ·obtain rfl:m=0:=by omega
    have hkn:k=n:=by omega
    have HO2:Hid (wr.ownsRow w.heap.size 78 4 _ (cy zs n).length (Rl.flat (cy zs n))):=hZz (by rw [HTL.out,←hkn];exact hown);clear hown hbel hkn;go_wp2;go_ret2;exact ⟨⟨_,rfl,HO2.out⟩,HBE.out⟩
 ·have HR:Hid (fq zs=(10,[])):=hZz (by unfold fq;rw [HZL.out,if_neg hm]);rw [HR.out];have hmb:((len:Int) % 24 != 0)=true:=by
   rw [bne_iff_ne];omega
  clear hb hm;go_enter Tryz.func105,Tryz.ntmps105
  go_wp2;go_ret2;exact ⟨⟨_,rfl,World.ownsRow_nil _ _ _ _⟩,Below.refl _ _⟩
end Go.Proofs.YtclgbdfkdbbinaaGreat
