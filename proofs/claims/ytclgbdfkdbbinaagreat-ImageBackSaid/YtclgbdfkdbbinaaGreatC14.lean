/-
  What is proved here: words and contracts, a part of those that the statement rests on (C14).
  Conditions: none but that the arguments are values of their types.
-/
import Derived.Test.YtclgbdfkdbbinaaGreatC4
import Derived.Test.YtclgbdfkdbbinaaGreatC1
import Derived.Test.YtclgbdfkdbbinaaGreatC2
import Derived.Test.YtclgbdfkdbbinaaGreatC7
set_option linter.unusedVariables false
set_option linter.unusedSimpArgs false
set_option maxRecDepth 100000
set_option maxHeartbeats 12800000
namespace Go.Proofs.YtclgbdfkdbbinaaGreat
open Go.RowKit
theorem k5_setB_noughts (x:Int) (n:Nat):setB (List.replicate n 0) 0 x n=digs x n:=by
 simp [setB,List.drop_eq_nil_of_le]
theorem k5_replicate_map (n:Nat):List.replicate n (Value.int .u8 0)=(List.replicate n (0:Int)).map (Value.int .u8):=by
 rw [List.map_replicate]
theorem num8_ok (x:Int) (w:World) (x0:0≤x) (x1:x≤18446744073709551615) :
 Calls Tryz.prog 155 #[.int .u64 x] w fun r w'=>(∃g c,r=.returned (.slice (some ⟨g,0,none⟩) 8 c)∧Bys w' w'.heap.size (some ⟨g,0,none⟩) 8 (digs x 8))∧Below w.heap.size w w':=by
 obtain ⟨i0,hi,hz0,hz1,hz2⟩:=info_parts info_u8;have HI:=Lib.hid hi;have HZ0:=Lib.hid hz0;have HZ1:=Lib.hid hz1;have HZ2:=Lib.hid hz2;clear hi hz0 hz1 hz2;go_enter Tryz.func155,Tryz.ntmps155
 go_wp2_with (at_make;refine wpList_make_full _ rfl _ _ 22 rfl w.heap.size 5 i0 (.int .u8 0) 1 Tryz.underlying22 HI.out HZ0.out HZ1.out .i64 .i64 _ _ 8 rfl rfl rfl rfl ?c1 ?c2 ?c3 ?_);case c1=>rw [HZ2.out];omega
 case c2=>unfold maxLen;omega
 case c3=>exact Nat.le_refl _
 intro w1 hown hg;have hb1:Below w.heap.size w w1:=(Below.refl _ _).grown hg (Nat.le_refl _) (fun _ e=>by cases e);rw [toList_madeCells_one,k5_replicate_map] at hown;have HBY:=Lib.hid (Bys.own (zs:=List.replicate 8 0) (fun m hm=>by rw [List.eq_of_mem_replicate hm];omega) hown);clear hown hg;go_wp2_with fail;refine (set_ok _ _ _ _ (List.replicate 8 0) 0 8 x _ HBY.out (Nat.le_refl _) (by decide) (by omega) (by omega) x0 x1).mono ?_;rintro e w2 ⟨rfl,hown,hb2⟩;rw [k5_setB_noughts] at hown;have HB:Hid (Bys w2 w2.heap.size (some ⟨w1.heap.size,0,none⟩) 8 (digs x 8)):=Lib.hid (Bys.own (digs_bd x 8) hown);have hbb:=hb1.trans (hb2.mono hb1.size);clear hown hb1 hb2;go_wp2;go_ret;exact ⟨⟨_,_,rfl,HB.out⟩,hbb⟩
theorem add_ok (base:Nat) (v:Value) (m:Nat) (zs:List Int) (x y:Int) (w:World) (ho:w.ownsRow base 5 1 v m (zs.map (Value.int .u8))) (hbase:base≤w.heap.size) (hm:m≤1000000) (x0:0≤x) (x1:x≤18446744073709551615) (y0:0≤y) (y1:y≤18446744073709551615) :
 Calls Tryz.prog 123 #[v,.int .u64 x,.int .u64 y] w fun r w'=>∃v',r=.returned v'∧w'.ownsRow base 5 1 v' (m+16) ((zs++entB (x,y)).map (Value.int .u8))∧Below base w w':=by
 obtain ⟨i0,hi,hz0,hz1,hz2⟩:=info_parts info_u8;have HO:=Lib.hid ho;have HI:=Lib.hid hi;have HZ0:=Lib.hid hz0;have HZ1:=Lib.hid hz1;have HZ2:=Lib.hid hz2;clear ho hi hz0 hz1 hz2;go_enter Tryz.func123,Tryz.ntmps123
 go_wp2_with fail;refine (num8_ok x _ x0 x1).mono ?_;rintro r w1 ⟨⟨g,c,rfl,hby⟩,hb1⟩;have HO1:=Lib.hid (own_below HO.out hb1);have HBY:=Lib.hid hby;have HB1:=Lib.hid (hb1.mono hbase);clear hby hb1;go_wp2_with (at_builtin;refine wpList_append_bys rfl _ _ 22 rfl base 5 i0 (.int .u8 0) 1 Tryz.underlying22 HI.out HZ0.out HZ1.out HZ2.out rfl _ m _ rfl HO1.out _ 8 c _ (digs x 8) rfl HBY.out (fun h=>by cases h) ?c1 ?c2 ?c3 ?_);case c1=>unfold maxLen;omega
 case c2=>omega
 case c3=>exact Nat.le_trans hbase HB1.out.size
 intro v2 w2 ho2 hg2;have hb2:=HB1.out.grown hg2 (Nat.le_trans hbase HB1.out.size) (fun q e=>(HO1.out.lt q e).1);have HO2:Hid (w2.ownsRow base 5 1 v2 (m+8) ((zs++digs x 8).map (Value.int .u8))):=Lib.hid (by simpa only [List.map_append] using ho2);have HB2:=Lib.hid hb2;have hs2:=hb2.size;clear ho2 hg2 hb2;go_wp2_with fail;refine (num8_ok y _ y0 y1).mono ?_;rintro r w3 ⟨⟨g3,c3,rfl,hby⟩,hb3⟩;have HO3:=Lib.hid (own_below HO2.out hb3);have HBY3:=Lib.hid hby;have HB3:=Lib.hid (HB2.out.trans (hb3.mono (Nat.le_trans hbase hs2)));clear hby hb3;go_wp2_with (at_builtin;refine wpList_append_bys rfl _ _ 22 rfl base 5 i0 (.int .u8 0) 1 Tryz.underlying22 HI.out HZ0.out HZ1.out HZ2.out rfl _ (m+8) _ rfl HO3.out _ 8 c3 _ (digs y 8) rfl HBY3.out (fun h=>by cases h) ?d1 ?d2 ?d3 ?_);case d1=>unfold maxLen;omega
 case d2=>omega
 case d3=>exact Nat.le_trans hbase HB3.out.size
 intro v4 w4 ho4 hg4;have hb4:=HB3.out.grown hg4 (Nat.le_trans hbase HB3.out.size) (fun q e=>(HO3.out.lt q e).1);have HO4:Hid (w4.ownsRow base 5 1 v4 (m+16) ((zs++entB (x,y)).map (Value.int .u8))):=Lib.hid (by
  simpa only [List.map_append,List.append_assoc,Nat.add_assoc,entB] using ho4)
 clear ho4 hg4;go_wp2;go_ret;exact ⟨_,rfl,HO4.out,hb4⟩
theorem k5_read_ok (B:Nat) (a:Option Addr) (len cap:Nat) (zs:List Int) (p:Nat) (w:World) (hb:Bys w B a len zs) (hl:(len:Int)≤9223372036854775807) (hs:p+8≤len) :
 Calls Tryz.prog 97 #[.slice a len cap,.int .u64 p] w fun e w'=>e=.returned (.int .u64 (num (piece zs p 8)))∧w=w':=by
 have HB:=Lib.hid hb;clear hb;go_enter Tryz.func97,Tryz.ntmps97
 go_wp2_with (go_at_call 131;refine (get_ok _ _ _ _ _ p 8 _ HB.out (by decide) hl hs).mono ?_;rintro e w' ⟨rfl,rfl⟩);go_ret;exact ⟨rfl,rfl⟩
def needs (N:List Int):List (Int×Int):=N.map fun x=>(1,x)
theorem needs_len (N:List Int):(needs N).length=N.length:=by simp [needs]
theorem needs_step {N:List Int} {k:Nat} (h:k<N.length):needs (N.take (k+1))=needs (N.take k)++[(1,N.getD k 0)]:=by
 unfold needs;rw [List.take_succ_eq_append_getElem h,List.map_append,List.getD_eq_getElem?_getD,List.getElem?_eq_getElem h];rfl
theorem putBy_eq (N V:List Int):putBy N V=entsB (needs N++sevenD V 7)++entB (0,0):=by
 rw [←entsB_snoc];unfold putBy putEs needs;rw [List.append_assoc]
theorem putBy_len (N V:List Int):(putBy N V).length=16*(N.length+(sevenD V 7).length)+16:=by
 rw [putBy_eq,List.length_append,entsB_len,entB_len,List.length_append,needs_len]
theorem seven_le (V:List Int) (k:Nat):(sevenD V k).length≤k:=by
 unfold sevenD;rw [List.length_map];exact Nat.le_trans (List.length_filter_le _ _) (by simp)
theorem list7 {V:List Int} (h:V.length=7):∃x0 x1 x2 x3 x4 x5 x6,V=[x0,x1,x2,x3,x4,x5,x6]:=by
 rcases V with _ | ⟨c0,_ | ⟨c1,_ | ⟨c2,_ | ⟨c3,_ | ⟨c4,_ | ⟨c5,_ | ⟨c6,_ | ⟨c7,cs⟩⟩⟩⟩⟩⟩⟩⟩;all_goals first | exact ⟨_,_,_,_,_,_,_,rfl⟩ | (simp at h;try omega)
def infoV (a:Option Addr) (n c:Nat) (V:List Int):Value:=
 .agg #[.slice a n c,.int .u64 (V.getD 0 0),.int .u64 (V.getD 1 0),.int .u64 (V.getD 2 0),.int .u64 (V.getD 3 0),.int .u64 (V.getD 4 0),.int .u64 (V.getD 5 0),.int .u64 (V.getD 6 0)]
theorem c8 {w:World} {g:Nat} {v0 v1 v2 v3 v4 v5 v6 v7:Value} {t:TypeId} (h:Blk w g #[v0,v1,v2,v3,v4,v5,v6,v7] t) :
 w.cell? ⟨g,0,none⟩=some v0∧w.cell? ⟨g,1,none⟩=some v1∧w.cell? ⟨g,2,none⟩=some v2∧w.cell? ⟨g,3,none⟩=some v3∧w.cell? ⟨g,4,none⟩=some v4∧w.cell? ⟨g,5,none⟩=some v5∧w.cell? ⟨g,6,none⟩=some v6∧w.cell? ⟨g,7,none⟩=some v7:=
 ⟨h.cell 0,h.cell 1,h.cell 2,h.cell 3,h.cell 4,h.cell 5,h.cell 6,h.cell 7⟩
theorem f8 {w:World} {g:Nat} {v0 v1 v2 v3 v4 v5 v6 v7:Value} {t:TypeId} (h:Blk w g #[v0,v1,v2,v3,v4,v5,v6,v7] t) :
 w.frozen? ⟨g,0,none⟩=false∧w.frozen? ⟨g,1,none⟩=false∧w.frozen? ⟨g,2,none⟩=false∧w.frozen? ⟨g,3,none⟩=false∧w.frozen? ⟨g,4,none⟩=false∧w.frozen? ⟨g,5,none⟩=false∧w.frozen? ⟨g,6,none⟩=false∧w.frozen? ⟨g,7,none⟩=false:=
 ⟨h.frozen 0,h.frozen 1,h.frozen 2,h.frozen 3,h.frozen 4,h.frozen 5,h.frozen 6,h.frozen 7⟩
theorem sev_add {n:Nat} {N V:List Int} {base:Nat} {v:Value} {w:World} {k:Nat} {t x:Int} (hs:sevenD V (k+1)=sevenD V k++[(t,x)])
 (h:w.ownsRow base 5 1 v (16*(n+(sevenD V k).length)+16) ((entsB (needs N++sevenD V k)++entB (t,x)).map (Value.int .u8))) :
 w.ownsRow base 5 1 v (16*(n+(sevenD V (k+1)).length)) ((entsB (needs N++sevenD V (k+1))).map (Value.int .u8)):=by
 rw [hs,←List.append_assoc,entsB_snoc,List.length_append];have e:16*(n+((sevenD V k).length+[(t,x)].length))=16*(n+(sevenD V k).length)+16:=by simp;omega
 rw [e];exact h
theorem sev_not {n:Nat} {N V:List Int} {base:Nat} {v:Value} {w:World} {k:Nat} (hs:sevenD V (k+1)=sevenD V k)
 (h:w.ownsRow base 5 1 v (16*(n+(sevenD V k).length)) ((entsB (needs N++sevenD V k)).map (Value.int .u8))) :
 w.ownsRow base 5 1 v (16*(n+(sevenD V (k+1)).length)) ((entsB (needs N++sevenD V (k+1))).map (Value.int .u8)):=by
 rw [hs];exact h
theorem k5_put_ok (B:Nat) (a:Option Addr) (n c:Nat) (N V:List Int) (w:World) (h1:Nus w B a n N) (hV:∀x∈V,0≤x∧x≤18446744073709551615) (hl:V.length=7) (hB:B≤w.heap.size) (hn:n≤1000) :
 Calls Tryz.prog 68 #[infoV a n c V] w fun r w'=>(∃u,r=.returned u∧w'.ownsRow w.heap.size 5 1 u (putBy N V).length ((putBy N V).map (Value.int .u8)))∧Below w.heap.size w w':=by
 have hni:(n:Int)≤1000:=by omega
 obtain ⟨x0,x1,x2,x3,x4,x5,x6,rfl⟩:=list7 hl;have b0:0≤x0∧x0≤18446744073709551615:=hV _ (by simp);have b1:0≤x1∧x1≤18446744073709551615:=hV _ (by simp);have b2:0≤x2∧x2≤18446744073709551615:=hV _ (by simp);have b3:0≤x3∧x3≤18446744073709551615:=hV _ (by simp);have b4:0≤x4∧x4≤18446744073709551615:=hV _ (by simp);have b5:0≤x5∧x5≤18446744073709551615:=hV _ (by simp);have b6:0≤x6∧x6≤18446744073709551615:=hV _ (by simp);unfold infoV;simp only [List.getD_cons_zero,List.getD_cons_succ];clear hV hl;generalize hV:([x0,x1,x2,x3,x4,x5,x6]:List Int)=V;have HK0:Hid (sevenD V 1=sevenD V 0++(if x0=0 then [] else [(14,x0)])):=Lib.hid (by
  subst hV;rw [sevenD_succ];by_cases h:x0=0<;>simp [keepD,h,tagsD])
 have HK1:Hid (sevenD V 2=sevenD V 1++[(5,x1)]):=Lib.hid (by subst hV;rw [sevenD_succ];simp [keepD,tagsD]);have HK2:Hid (sevenD V 3=sevenD V 2++[(10,x2)]):=Lib.hid (by subst hV;rw [sevenD_succ];simp [keepD,tagsD]);have HK3:Hid (sevenD V 4=sevenD V 3++(if x4=0 then [] else [(6,x3)])):=Lib.hid (by
  subst hV;rw [sevenD_succ];by_cases h:x4=0<;>simp [keepD,h,tagsD])
 have HK4:Hid (sevenD V 5=sevenD V 4++(if x4=0 then [] else [(1610612749,x4)])):=Lib.hid (by
  subst hV;rw [sevenD_succ];by_cases h:x4=0<;>simp [keepD,h,tagsD])
 have HK5:Hid (sevenD V 6=sevenD V 5++(if x6=0 then [] else [(7,x5)])):=Lib.hid (by
  subst hV;rw [sevenD_succ];by_cases h:x6=0<;>simp [keepD,h,tagsD])
 have HK6:Hid (sevenD V 7=sevenD V 6++(if x6=0 then [] else [(8,x6)])):=Lib.hid (by
  subst hV;rw [sevenD_succ];by_cases h:x6=0<;>simp [keepD,h,tagsD])
 have HPE:Hid (entsB (needs N++sevenD V 7)++entB (0,0)=putBy N V∧16*(n+(sevenD V 7).length)+16=(putBy N V).length):=Lib.hid (by
  refine ⟨(putBy_eq N V).symm,?_⟩;rw [putBy_len,h1.hl])
 have HL:Hid (∀k,(sevenD V k).length≤k):=Lib.hid (seven_le V);clear hV;obtain ⟨C,hC⟩:∃C:Array Value,C=#[.slice a n c,.int .u64 x0,.int .u64 x1,.int .u64 x2,.int .u64 x3,.int .u64 x4,.int .u64 x5,.int .u64 x6]:=⟨_,rfl⟩
 have HBW:Hid (Below w.heap.size w (w.alloc (.cells C 70))):=Lib.hid ((Below.refl _ _).alloc (Nat.le_refl _) _);have HQ:Hid (∀w',Below (w.heap.size+1) (w.alloc (.cells C 70)) w'→Blk w' w.heap.size #[.slice a n c,.int .u64 x0,.int .u64 x1,.int .u64 x2,.int .u64 x3,.int .u64 x4,.int .u64 x5,.int .u64 x6] 70∧w.heap.size+1≤w'.heap.size):=Lib.hid (fun w' hb=>
  ⟨hC▸(Blk.new w _ _).below hb (Nat.lt_succ_self _),by have:=hb.size;simp at this;omega⟩)
 have H1:Hid (∀w',Below (w.heap.size+1) (w.alloc (.cells C 70)) w'→Nus w' B a n N):=Lib.hid (fun w' h=>(h1.below (HBW.out.mono hB)).below (h.mono (by omega)));have HNL:=Lib.hid h1.hl;have HNA:=Lib.hid (fun i hi=>h1.at (i:=i) hi);have HFIN:Hid (∀w' v,Below (w.heap.size+1) (w.alloc (.cells C 70)) w'→w'.ownsRow (w.heap.size+1) 5 1 v (16*(n+(sevenD V 7).length)+16) ((entsB (needs N++sevenD V 7)++entB (0,0)).map (Value.int .u8))→(∃u,(Ending.returned v)=.returned u∧w'.ownsRow w.heap.size 5 1 u (putBy N V).length ((putBy N V).map (Value.int .u8)))∧Below w.heap.size w w'):=Lib.hid (fun w' v hb ho=>by
  obtain ⟨e1,e2⟩:=HPE.out;rw [e1,e2] at ho;exact ⟨⟨_,rfl,own_base ho (Nat.le_succ _)⟩,HBW.out.trans (hb.mono (by omega))⟩)
 clear h1;subst hC;go_enter Tryz.func68,Tryz.ntmps68
 go_wp2;go_loopw [3,9] (fun v i wr=>∃k:Nat,k≤n∧i=.int .i64 k∧wr.ownsRow (w.heap.size+1) 5 1 v (16*k) ((entsB (needs (N.take k))).map (Value.int .u8))∧Below (w.heap.size+1) (w.alloc (.cells #[.slice a n c,.int .u64 x0,.int .u64 x1,.int .u64 x2,.int .u64 x3,.int .u64 x4,.int .u64 x5,.int .u64 x6] 70)) wr) (fun _ i _=>n-(intOf i).toNat)
 case atStart=>exact ⟨0,Nat.zero_le _,rfl,World.ownsRow_nil _ _ _ _,Below.refl _ _⟩
 case round=>
  obtain ⟨k,hk,rfl,hown,hbel⟩:=hrel;by_cases hlt:k<n
  ·obtain ⟨ab,ao,rfl,haB,hac⟩:=(H1.out _ hbel).hc (by omega);have e1:=hac k hlt;have hki:(k:Int)<n:=by omega
   have hbd:=HNA.out k hlt;have HST:=Lib.hid (needs_step (N:=N) (k:=k) (by have:=HNL.out;omega));have HOW:=Lib.hid hown;have HBE:=Lib.hid hbel;generalize N.getD k 0=x at e1 hbd HST;clear hac hown hbel;go_wp2_with fail;refine (add_ok (w.heap.size+1) _ (16*k) _ 1 x _ HOW.out (HQ.out _ HBE.out).2 (by omega) (by decide) (by decide) hbd.1 hbd.2).mono ?_;rintro r w2 ⟨v2,rfl,ho,hb⟩;rw [←entsB_snoc,←HST.out] at ho;have HO2:Hid (w2.ownsRow (w.heap.size+1) 5 1 v2 (16*(k+1)) ((entsB (needs (N.take (k+1)))).map (Value.int .u8))):=Lib.hid ho;have HB2:=Lib.hid (HBE.out.trans hb);clear ho hb;go_wp2;go_roundw
   case rel=>exact ⟨k+1,by omega,by go_num,HO2.out,HB2.out⟩
   case measure=>(simp [intOf]<;>omega)
  ·obtain rfl:n=k:=by omega
   have htk:N.take n=N:=List.take_of_length_le (by have:=HNL.out;omega);rw [htk] at hown;have HO0:Hid (wr.ownsRow (w.heap.size+1) 5 1 _ (16*(n+(sevenD V 0).length)) ((entsB (needs N++sevenD V 0)).map (Value.int .u8))):=Lib.hid (by
    have e:sevenD V 0=[]:=rfl;rw [e,List.append_nil];exact hown)
   have HB0:=Lib.hid hbel;obtain ⟨q0,q1,q2,q3,q4,q5,q6,q7⟩:=c8 (HQ.out _ hbel).1;clear hown hbel htk hk hlt;by_cases hz0:x0=0
   ·have hzb0:(x0==0)=true:=by simpa using hz0
    have HO1:=Lib.hid (sev_not (HK0.out.trans (by rw [if_pos hz0,List.append_nil])) HO0.out);have HB1:=HB0;go_wp2_with fail;refine (add_ok (w.heap.size+1) _ (16*(n+(sevenD V 1).length)) _ 5 x1 _ HO1.out (HQ.out _ HB1.out).2 (by have:=HL.out 1;omega) (by decide) (by decide) b1.1 b1.2).mono ?_;rintro r w2 ⟨v2,rfl,ho,hb⟩;have HO2:=Lib.hid (sev_add HK1.out ho);have HB2:=Lib.hid (HB1.out.trans hb);obtain ⟨q0,q1,q2,q3,q4,q5,q6,q7⟩:=c8 (HQ.out _ HB2.out).1;clear ho hb;go_wp2_with fail;refine (add_ok (w.heap.size+1) _ (16*(n+(sevenD V 2).length)) _ 10 x2 _ HO2.out (HQ.out _ HB2.out).2 (by have:=HL.out 2;omega) (by decide) (by decide) b2.1 b2.2).mono ?_;rintro r w2 ⟨v2,rfl,ho,hb⟩;have HO3:=Lib.hid (sev_add HK2.out ho);have HB3:=Lib.hid (HB2.out.trans hb);obtain ⟨q0,q1,q2,q3,q4,q5,q6,q7⟩:=c8 (HQ.out _ HB3.out).1;clear ho hb;by_cases hz4:x4=0
    ·have hzb4:(x4==0)=true:=by simpa using hz4
     have HO4:=Lib.hid (sev_not (HK3.out.trans (by rw [if_pos hz4,List.append_nil])) HO3.out);have HB4:=HB3;have HO5:=Lib.hid (sev_not (HK4.out.trans (by rw [if_pos hz4,List.append_nil])) HO4.out);have HB5:=HB4;by_cases hz6:x6=0
     ·have hzb6:(x6==0)=true:=by simpa using hz6
      have HO6:=Lib.hid (sev_not (HK5.out.trans (by rw [if_pos hz6,List.append_nil])) HO5.out);have HB6:=HB5;have HO7:=Lib.hid (sev_not (HK6.out.trans (by rw [if_pos hz6,List.append_nil])) HO6.out);have HB7:=HB6;go_wp2_with fail;refine (add_ok (w.heap.size+1) _ (16*(n+(sevenD V 7).length)) _ 0 0 _ HO7.out (HQ.out _ HB7.out).2 (by have:=HL.out 7;omega) (by decide) (by decide) (by decide) (by decide)).mono ?_;rintro r w2 ⟨v2,rfl,ho,hb⟩;have HF:=Lib.hid (HFIN.out _ _ (HB7.out.trans hb) ho);clear ho hb;go_wp2;go_ret;exact HF.out
     ·have hzb6:(x6==0)=false:=by simpa using hz6
      go_wp2_with fail;refine (add_ok (w.heap.size+1) _ (16*(n+(sevenD V 5).length)) _ 7 x5 _ HO5.out (HQ.out _ HB5.out).2 (by have:=HL.out 5;omega) (by decide) (by decide) b5.1 b5.2).mono ?_;rintro r w2 ⟨v2,rfl,ho,hb⟩;have HO8:=Lib.hid (sev_add (HK5.out.trans (by rw [if_neg hz6])) ho);have HB8:=Lib.hid (HB5.out.trans hb);obtain ⟨q0,q1,q2,q3,q4,q5,q6,q7⟩:=c8 (HQ.out _ HB8.out).1;clear ho hb;go_wp2_with fail;refine (add_ok (w.heap.size+1) _ (16*(n+(sevenD V 6).length)) _ 8 x6 _ HO8.out (HQ.out _ HB8.out).2 (by have:=HL.out 6;omega) (by decide) (by decide) b6.1 b6.2).mono ?_;rintro r w2 ⟨v2,rfl,ho,hb⟩;have HO9:=Lib.hid (sev_add (HK6.out.trans (by rw [if_neg hz6])) ho);have HB9:=Lib.hid (HB8.out.trans hb);obtain ⟨q0,q1,q2,q3,q4,q5,q6,q7⟩:=c8 (HQ.out _ HB9.out).1;clear ho hb;go_wp2_with fail;refine (add_ok (w.heap.size+1) _ (16*(n+(sevenD V 7).length)) _ 0 0 _ HO9.out (HQ.out _ HB9.out).2 (by have:=HL.out 7;omega) (by decide) (by decide) (by decide) (by decide)).mono ?_;rintro r w2 ⟨v2,rfl,ho,hb⟩;have HF:=Lib.hid (HFIN.out _ _ (HB9.out.trans hb) ho);clear ho hb;go_wp2;go_ret;exact HF.out
    ·have hzb4:(x4==0)=false:=by simpa using hz4
     go_wp2_with fail;refine (add_ok (w.heap.size+1) _ (16*(n+(sevenD V 3).length)) _ 6 x3 _ HO3.out (HQ.out _ HB3.out).2 (by have:=HL.out 3;omega) (by decide) (by decide) b3.1 b3.2).mono ?_;rintro r w2 ⟨v2,rfl,ho,hb⟩;have HO10:=Lib.hid (sev_add (HK3.out.trans (by rw [if_neg hz4])) ho);have HB10:=Lib.hid (HB3.out.trans hb);obtain ⟨q0,q1,q2,q3,q4,q5,q6,q7⟩:=c8 (HQ.out _ HB10.out).1;clear ho hb;go_wp2_with fail;refine (add_ok (w.heap.size+1) _ (16*(n+(sevenD V 4).length)) _ 1610612749 x4 _ HO10.out (HQ.out _ HB10.out).2 (by have:=HL.out 4;omega) (by decide) (by decide) b4.1 b4.2).mono ?_;rintro r w2 ⟨v2,rfl,ho,hb⟩;have HO11:=Lib.hid (sev_add (HK4.out.trans (by rw [if_neg hz4])) ho);have HB11:=Lib.hid (HB10.out.trans hb);obtain ⟨q0,q1,q2,q3,q4,q5,q6,q7⟩:=c8 (HQ.out _ HB11.out).1;clear ho hb;by_cases hz6:x6=0
     ·have hzb6:(x6==0)=true:=by simpa using hz6
      have HO12:=Lib.hid (sev_not (HK5.out.trans (by rw [if_pos hz6,List.append_nil])) HO11.out);have HB12:=HB11;have HO13:=Lib.hid (sev_not (HK6.out.trans (by rw [if_pos hz6,List.append_nil])) HO12.out);have HB13:=HB12;go_wp2_with fail;refine (add_ok (w.heap.size+1) _ (16*(n+(sevenD V 7).length)) _ 0 0 _ HO13.out (HQ.out _ HB13.out).2 (by have:=HL.out 7;omega) (by decide) (by decide) (by decide) (by decide)).mono ?_;rintro r w2 ⟨v2,rfl,ho,hb⟩;have HF:=Lib.hid (HFIN.out _ _ (HB13.out.trans hb) ho);clear ho hb;go_wp2;go_ret;exact HF.out
     ·have hzb6:(x6==0)=false:=by simpa using hz6
      go_wp2_with fail;refine (add_ok (w.heap.size+1) _ (16*(n+(sevenD V 5).length)) _ 7 x5 _ HO11.out (HQ.out _ HB11.out).2 (by have:=HL.out 5;omega) (by decide) (by decide) b5.1 b5.2).mono ?_;rintro r w2 ⟨v2,rfl,ho,hb⟩;have HO14:=Lib.hid (sev_add (HK5.out.trans (by rw [if_neg hz6])) ho);have HB14:=Lib.hid (HB11.out.trans hb);obtain ⟨q0,q1,q2,q3,q4,q5,q6,q7⟩:=c8 (HQ.out _ HB14.out).1;clear ho hb;go_wp2_with fail;refine (add_ok (w.heap.size+1) _ (16*(n+(sevenD V 6).length)) _ 8 x6 _ HO14.out (HQ.out _ HB14.out).2 (by have:=HL.out 6;omega) (by decide) (by decide) b6.1 b6.2).mono ?_;rintro r w2 ⟨v2,rfl,ho,hb⟩;have HO15:=Lib.hid (sev_add (HK6.out.trans (by rw [if_neg hz6])) ho);have HB15:=Lib.hid (HB14.out.trans hb);obtain ⟨q0,q1,q2,q3,q4,q5,q6,q7⟩:=c8 (HQ.out _ HB15.out).1;clear ho hb;go_wp2_with fail;refine (add_ok (w.heap.size+1) _ (16*(n+(sevenD V 7).length)) _ 0 0 _ HO15.out (HQ.out _ HB15.out).2 (by have:=HL.out 7;omega) (by decide) (by decide) (by decide) (by decide)).mono ?_;rintro r w2 ⟨v2,rfl,ho,hb⟩;have HF:=Lib.hid (HFIN.out _ _ (HB15.out.trans hb) ho);clear ho hb;go_wp2;go_ret;exact HF.out
   ·have hzb0:(x0==0)=false:=by simpa using hz0
    go_wp2_with fail;refine (add_ok (w.heap.size+1) _ (16*(n+(sevenD V 0).length)) _ 14 x0 _ HO0.out (HQ.out _ HB0.out).2 (by have:=HL.out 0;omega) (by decide) (by decide) b0.1 b0.2).mono ?_;rintro r w2 ⟨v2,rfl,ho,hb⟩;have HO16:=Lib.hid (sev_add (HK0.out.trans (by rw [if_neg hz0])) ho);have HB16:=Lib.hid (HB0.out.trans hb);obtain ⟨q0,q1,q2,q3,q4,q5,q6,q7⟩:=c8 (HQ.out _ HB16.out).1;clear ho hb;go_wp2_with fail;refine (add_ok (w.heap.size+1) _ (16*(n+(sevenD V 1).length)) _ 5 x1 _ HO16.out (HQ.out _ HB16.out).2 (by have:=HL.out 1;omega) (by decide) (by decide) b1.1 b1.2).mono ?_;rintro r w2 ⟨v2,rfl,ho,hb⟩;have HO17:=Lib.hid (sev_add HK1.out ho);have HB17:=Lib.hid (HB16.out.trans hb);obtain ⟨q0,q1,q2,q3,q4,q5,q6,q7⟩:=c8 (HQ.out _ HB17.out).1;clear ho hb;go_wp2_with fail;refine (add_ok (w.heap.size+1) _ (16*(n+(sevenD V 2).length)) _ 10 x2 _ HO17.out (HQ.out _ HB17.out).2 (by have:=HL.out 2;omega) (by decide) (by decide) b2.1 b2.2).mono ?_;rintro r w2 ⟨v2,rfl,ho,hb⟩;have HO18:=Lib.hid (sev_add HK2.out ho);have HB18:=Lib.hid (HB17.out.trans hb);obtain ⟨q0,q1,q2,q3,q4,q5,q6,q7⟩:=c8 (HQ.out _ HB18.out).1;clear ho hb;by_cases hz4:x4=0
    ·have hzb4:(x4==0)=true:=by simpa using hz4
     have HO19:=Lib.hid (sev_not (HK3.out.trans (by rw [if_pos hz4,List.append_nil])) HO18.out);have HB19:=HB18;have HO20:=Lib.hid (sev_not (HK4.out.trans (by rw [if_pos hz4,List.append_nil])) HO19.out);have HB20:=HB19;by_cases hz6:x6=0
     ·have hzb6:(x6==0)=true:=by simpa using hz6
      have HO21:=Lib.hid (sev_not (HK5.out.trans (by rw [if_pos hz6,List.append_nil])) HO20.out);have HB21:=HB20;have HO22:=Lib.hid (sev_not (HK6.out.trans (by rw [if_pos hz6,List.append_nil])) HO21.out);have HB22:=HB21;go_wp2_with fail;refine (add_ok (w.heap.size+1) _ (16*(n+(sevenD V 7).length)) _ 0 0 _ HO22.out (HQ.out _ HB22.out).2 (by have:=HL.out 7;omega) (by decide) (by decide) (by decide) (by decide)).mono ?_;rintro r w2 ⟨v2,rfl,ho,hb⟩;have HF:=Lib.hid (HFIN.out _ _ (HB22.out.trans hb) ho);clear ho hb;go_wp2;go_ret;exact HF.out
     ·have hzb6:(x6==0)=false:=by simpa using hz6
      go_wp2_with fail;refine (add_ok (w.heap.size+1) _ (16*(n+(sevenD V 5).length)) _ 7 x5 _ HO20.out (HQ.out _ HB20.out).2 (by have:=HL.out 5;omega) (by decide) (by decide) b5.1 b5.2).mono ?_;rintro r w2 ⟨v2,rfl,ho,hb⟩;have HO23:=Lib.hid (sev_add (HK5.out.trans (by rw [if_neg hz6])) ho);have HB23:=Lib.hid (HB20.out.trans hb);obtain ⟨q0,q1,q2,q3,q4,q5,q6,q7⟩:=c8 (HQ.out _ HB23.out).1;clear ho hb;go_wp2_with fail;refine (add_ok (w.heap.size+1) _ (16*(n+(sevenD V 6).length)) _ 8 x6 _ HO23.out (HQ.out _ HB23.out).2 (by have:=HL.out 6;omega) (by decide) (by decide) b6.1 b6.2).mono ?_;rintro r w2 ⟨v2,rfl,ho,hb⟩;have HO24:=Lib.hid (sev_add (HK6.out.trans (by rw [if_neg hz6])) ho);have HB24:=Lib.hid (HB23.out.trans hb);obtain ⟨q0,q1,q2,q3,q4,q5,q6,q7⟩:=c8 (HQ.out _ HB24.out).1;clear ho hb;go_wp2_with fail;refine (add_ok (w.heap.size+1) _ (16*(n+(sevenD V 7).length)) _ 0 0 _ HO24.out (HQ.out _ HB24.out).2 (by have:=HL.out 7;omega) (by decide) (by decide) (by decide) (by decide)).mono ?_;rintro r w2 ⟨v2,rfl,ho,hb⟩;have HF:=Lib.hid (HFIN.out _ _ (HB24.out.trans hb) ho);clear ho hb;go_wp2;go_ret;exact HF.out
    ·have hzb4:(x4==0)=false:=by simpa using hz4
     go_wp2_with fail;refine (add_ok (w.heap.size+1) _ (16*(n+(sevenD V 3).length)) _ 6 x3 _ HO18.out (HQ.out _ HB18.out).2 (by have:=HL.out 3;omega) (by decide) (by decide) b3.1 b3.2).mono ?_;rintro r w2 ⟨v2,rfl,ho,hb⟩;have HO25:=Lib.hid (sev_add (HK3.out.trans (by rw [if_neg hz4])) ho);have HB25:=Lib.hid (HB18.out.trans hb);obtain ⟨q0,q1,q2,q3,q4,q5,q6,q7⟩:=c8 (HQ.out _ HB25.out).1;clear ho hb;go_wp2_with fail;refine (add_ok (w.heap.size+1) _ (16*(n+(sevenD V 4).length)) _ 1610612749 x4 _ HO25.out (HQ.out _ HB25.out).2 (by have:=HL.out 4;omega) (by decide) (by decide) b4.1 b4.2).mono ?_;rintro r w2 ⟨v2,rfl,ho,hb⟩;have HO26:=Lib.hid (sev_add (HK4.out.trans (by rw [if_neg hz4])) ho);have HB26:=Lib.hid (HB25.out.trans hb);obtain ⟨q0,q1,q2,q3,q4,q5,q6,q7⟩:=c8 (HQ.out _ HB26.out).1;clear ho hb;by_cases hz6:x6=0
     ·have hzb6:(x6==0)=true:=by simpa using hz6
      have HO27:=Lib.hid (sev_not (HK5.out.trans (by rw [if_pos hz6,List.append_nil])) HO26.out);have HB27:=HB26;have HO28:=Lib.hid (sev_not (HK6.out.trans (by rw [if_pos hz6,List.append_nil])) HO27.out);have HB28:=HB27;go_wp2_with fail;refine (add_ok (w.heap.size+1) _ (16*(n+(sevenD V 7).length)) _ 0 0 _ HO28.out (HQ.out _ HB28.out).2 (by have:=HL.out 7;omega) (by decide) (by decide) (by decide) (by decide)).mono ?_;rintro r w2 ⟨v2,rfl,ho,hb⟩;have HF:=Lib.hid (HFIN.out _ _ (HB28.out.trans hb) ho);clear ho hb;go_wp2;go_ret;exact HF.out
     ·have hzb6:(x6==0)=false:=by simpa using hz6
      go_wp2_with fail;refine (add_ok (w.heap.size+1) _ (16*(n+(sevenD V 5).length)) _ 7 x5 _ HO26.out (HQ.out _ HB26.out).2 (by have:=HL.out 5;omega) (by decide) (by decide) b5.1 b5.2).mono ?_;rintro r w2 ⟨v2,rfl,ho,hb⟩;have HO29:=Lib.hid (sev_add (HK5.out.trans (by rw [if_neg hz6])) ho);have HB29:=Lib.hid (HB26.out.trans hb);obtain ⟨q0,q1,q2,q3,q4,q5,q6,q7⟩:=c8 (HQ.out _ HB29.out).1;clear ho hb;go_wp2_with fail;refine (add_ok (w.heap.size+1) _ (16*(n+(sevenD V 6).length)) _ 8 x6 _ HO29.out (HQ.out _ HB29.out).2 (by have:=HL.out 6;omega) (by decide) (by decide) b6.1 b6.2).mono ?_;rintro r w2 ⟨v2,rfl,ho,hb⟩;have HO30:=Lib.hid (sev_add (HK6.out.trans (by rw [if_neg hz6])) ho);have HB30:=Lib.hid (HB29.out.trans hb);obtain ⟨q0,q1,q2,q3,q4,q5,q6,q7⟩:=c8 (HQ.out _ HB30.out).1;clear ho hb;go_wp2_with fail;refine (add_ok (w.heap.size+1) _ (16*(n+(sevenD V 7).length)) _ 0 0 _ HO30.out (HQ.out _ HB30.out).2 (by have:=HL.out 7;omega) (by decide) (by decide) (by decide) (by decide)).mono ?_;rintro r w2 ⟨v2,rfl,ho,hb⟩;have HF:=Lib.hid (HFIN.out _ _ (HB30.out.trans hb) ho);clear ho hb;go_wp2;go_ret;exact HF.out
end Go.Proofs.YtclgbdfkdbbinaaGreat
