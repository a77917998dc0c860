/-
  What is proved here: words and contracts, a part of those that the statement rests on (C2).
  Conditions: none but that the arguments are values of their types.
-/
import Derived.Test.YtclgbdfkdbbinaaGreatC1
set_option linter.unusedVariables false
set_option linter.unusedSimpArgs false
set_option maxRecDepth 100000
set_option maxHeartbeats 12800000
namespace Go.Proofs.YtclgbdfkdbbinaaGreat
open Go.RowKit
theorem set_ok (B:Nat) (a:Option Addr) (len cap:Nat) (zs:List Int) (p n:Nat) (x:Int) (w:World) (hb:Bys w B a len zs) (hB:B≤w.heap.size) (h:n=1∨n=2∨n=4∨n=8) (hl:len≤140737488355328) (hs:p+n≤len) (x0:0≤x) (x1:x≤18446744073709551615) :
 Calls Tryz.prog 129 #[.slice a len cap,.int .u64 p,.int .i64 n,.int .u64 x] w fun e w'=>
  e=.returned (.tuple #[.slice (some ⟨w.heap.size,0,none⟩) len len,.int .i64 0])∧w'.ownsRow w.heap.size 5 1 (.slice (some ⟨w.heap.size,0,none⟩) len len) len ((setB zs p x n).map (Value.int .u8))∧Below w.heap.size w w':=by
 obtain ⟨i0,hi,hz0,hz1,hz2⟩:=info_parts info_u8;obtain ⟨hz,hbd,hat⟩:=hb;obtain ⟨b,off,rfl,hbB,hcell⟩:=hat (by omega);clear hat;have hn8:n≤8:=by omega
 have hsi:(p:Int)+(n:Int)≤(len:Int):=by omega
 have hli:(len:Int)≤9223372036854775807:=by omega
 have Hn:Hid ((n:Int)=1∨(n:Int)=2∨(n:Int)=4∨(n:Int)=8):=Lib.hid (by omega);have HC:=Lib.hid hcell;have HBD:=Lib.hid hbd;have HZ:=Lib.hid hz;have HI:=Lib.hid hi;have HZ0:=Lib.hid hz0;have HZ1:=Lib.hid hz1;have HZ2:=Lib.hid hz2;clear h hcell hbd hz hi hz0 hz1 hz2;go_enter Tryz.func129,Tryz.ntmps129
 go_wp2_with (first | (go_at_call 157;refine (check_ok _ _ _ _ _ _ Hn.out hli (by omega) hsi).mono ?_;rintro e w' ⟨rfl,rfl⟩) | (at_make;refine wpList_make_full _ rfl _ _ 22 rfl w.heap.size 5 i0 (.int .u8 0) 1 Tryz.underlying22 HI.out HZ0.out HZ1.out .i64 .i64 _ _ len rfl rfl rfl rfl ?c1 ?c2 ?c3 ?_));case c1=>rw [HZ2.out];omega
 case c2=>unfold maxLen;omega
 case c3=>exact Nat.le_refl _
 intro w1 hown hg;have hb1:Below w.heap.size w w1:=(Below.refl _ _).grown hg (Nat.le_refl _) (fun _ e=>by cases e);have HW:=Lib.hid (own_whole hown);rw [toList_madeCells_one] at HW;clear hown hg;have hsrc:=Bys.src (w:=w1) (b:=b) (off:=off) HZ.out (fun i hi=>(hb1.cell (p:=⟨b,off+i,none⟩) (by show b<_;omega)).trans (HC.out i hi));have HSRC:=Lib.hid hsrc;clear hsrc HC;go_wp2_with (with_reducible refine wpList_copy_splice rfl _ _ 22 22 rfl 5 Tryz.underlying22 size_u8 _ _ _ _ _ _ rfl rfl w.heap.size 0 (List.replicate len (.int .u8 0)) 5 HW.out (zs.map (Value.int .u8)) ?d1 (fun _=>⟨rfl,_,rfl,HSRC.out⟩) ?d3 ?d4 w.heap.size w hb1 (Nat.le_refl _) ?_);case d1=>rw [List.length_map,HZ.out];exact (Nat.min_self len).symm
 case d3=>rw [List.length_map,List.length_replicate,HZ.out];omega
 case d4=>exact one_u8 zs
 intro w2 HG hb2;have HO:=HG.out;rw [splice_all _ _ (by rw [List.length_map,List.length_replicate,HZ.out])] at HO;have HOWN:=Lib.hid (own_of_whole (base:=w.heap.size) (n:=len) (Nat.le_refl _) (by unfold maxLen;omega) (by rw [List.length_map,HZ.out]) HO);clear HG HO HW HSRC hb1;go_wp2;go_loopw [12,27] (fun _ i wr=>∃k:Nat,k≤n∧i=.int .i64 k∧wr.ownsRow w.heap.size 5 1 (.slice (some ⟨w.heap.size,0,none⟩) len len) len ((setB zs p x k).map (Value.int .u8))∧Below w.heap.size w wr) (fun _ i _=>n-(intOf i).toNat)
 case atStart=>exact ⟨0,Nat.zero_le _,rfl,by rw [setB_zero];exact HOWN.out,hb2⟩
 case round=>
  obtain ⟨k,hk,rfl,hown,hbel⟩:=hrel;by_cases hlt:k<n
  ·have hlen:=HZ.out;have hsl:=setB_len (zs:=zs) (p:=p) (k:=k) x (by omega);have hc:=hown.cellAt (p+k) (by omega);rw [getElem_map_u8 (by omega)] at hc;have hf:=hown.frozenAt (p+k);have hst:=hown.stored (p+k) (.int .u8 (x / 256 ^ k % 256));rw [map_set_u8,setB_succ x (by omega)] at hst;have hbs:=hbel.setCell (p:=⟨w.heap.size,p+k,none⟩) (Nat.le_refl _) (.int .u8 (x / 256 ^ k % 256));have HST:=Lib.hid hst;have HBS:=Lib.hid hbs;have HSB:=Lib.hid (shr_byte x k);clear hown hbel hst hbs hlen hsl;go_wp2;go_roundw
   case rel=>exact ⟨k+1,by omega,by go_num,by rw [HSB.out];exact HST.out.1,by rw [HSB.out];exact HBS.out⟩
   case measure=>simp [intOf];omega
  ·obtain rfl:k=n:=by omega
   have HOW:=Lib.hid hown;clear hown;go_wp2;go_ret2;exact ⟨rfl,HOW.out,hbel⟩

theorem k4_setB_noughts (x:Int) (n:Nat):setB (List.replicate n 0) 0 x n=digs x n:=by
 simp [setB,List.drop_eq_nil_of_le]
theorem k4_replicate_map (n:Nat):List.replicate n (Value.int .u8 0)=(List.replicate n (0:Int)).map (Value.int .u8):=by
 rw [List.map_replicate]
def k4_Made (zs:List Int) (u:Value) (w:World):Prop:=∃g c,u=.slice (some ⟨g,0,none⟩) zs.length c∧zs.length≤c∧(c:Int)≤9223372036854775807∧Bys w w.heap.size (some ⟨g,0,none⟩) zs.length zs
theorem k4_own_made {w:World} {base:Nat} {u:Value} {zs:List Int} (h:w.ownsRow base 5 1 u zs.length (zs.map (Value.int .u8))) (h0:0<zs.length) (hz:∀n∈zs,0≤n∧n≤255):k4_Made zs u w:=by
 obtain ⟨g,c,rfl,_⟩:=own_some h h0;have hcap:zs.length≤c∧c≤maxLen:=by
  rcases h.2 with ⟨hx,_⟩ | ⟨g,c,cur,hx,_,_,h3,h4,_⟩
  ·cases hx
  ·injection hx with _ _ hx;subst hx;exact ⟨h3,h4⟩
 exact ⟨g,c,rfl,hcap.1,by have:=hcap.2;unfold maxLen at this;omega,Bys.own hz h⟩
theorem k4_number_ok (x:Int) (n:Nat) (w:World) (h:n=1∨n=2∨n=4∨n=8) (x0:0≤x) (x1:x≤18446744073709551615) :
 Calls Tryz.prog 125 #[.int .u64 x,.int .i64 n] w fun r w'=>(∃u,r=.returned u∧k4_Made (digs x n) u w')∧Below w.heap.size w w':=by
 obtain ⟨i0,hi,hz0,hz1,hz2⟩:=info_parts info_u8;have Hn:=Lib.hid h;have hn8:n≤8:=by omega
 have HI:=Lib.hid hi;have HZ0:=Lib.hid hz0;have HZ1:=Lib.hid hz1;have HZ2:=Lib.hid hz2;clear h hi hz0 hz1 hz2;go_enter Tryz.func125,Tryz.ntmps125
 go_wp2_with (at_make;refine wpList_make_full _ rfl _ _ 22 rfl w.heap.size 5 i0 (.int .u8 0) 1 Tryz.underlying22 HI.out HZ0.out HZ1.out .i64 .i64 _ _ n rfl rfl rfl rfl ?c1 ?c2 ?c3 ?_);case c1=>rw [HZ2.out];omega
 case c2=>unfold maxLen;omega
 case c3=>exact Nat.le_refl _
 intro w1 hown hg;have hb1:Below w.heap.size w w1:=(Below.refl _ _).grown hg (Nat.le_refl _) (fun _ e=>by cases e);rw [toList_madeCells_one,k4_replicate_map] at hown;have HBY:=Lib.hid (Bys.own (zs:=List.replicate n 0) (fun m hm=>by rw [List.eq_of_mem_replicate hm];omega) hown);clear hown hg;go_wp2_with (go_at_call 129;refine (set_ok _ _ _ _ (List.replicate n 0) 0 n x _ HBY.out (Nat.le_refl _) Hn.out (by omega) (by omega) x0 x1).mono ?_);rintro e w2 ⟨rfl,hown,hb2⟩;rw [k4_setB_noughts] at hown;have hby:=Bys.own (digs_bd x n) hown;have HM:Hid (k4_Made (digs x n) (.slice (some ⟨w1.heap.size,0,none⟩) n n) w2):=Lib.hid (by
  refine ⟨w1.heap.size,n,by rw [digs_len],by rw [digs_len];exact Nat.le_refl _,by omega,?_⟩;rw [digs_len];exact hby)
 have hbb:=hb1.trans (hb2.mono hb1.size);clear hown hby hb1 hb2;go_wp2;go_ret;exact ⟨⟨_,rfl,HM.out⟩,hbb⟩
theorem k4_read_ok (B:Nat) (a:Option Addr) (len cap:Nat) (zs:List Int) (p n:Nat) (w:World) (hb:Bys w B a len zs) (h:n=1∨n=2∨n=4∨n=8) (hl:(len:Int)≤9223372036854775807) (hs:p+n≤len) :
 Calls Tryz.prog 135 #[.slice a len cap,.int .u64 p,.int .i64 n] w fun e w'=>e=.returned (.int .u64 (num (piece zs p n)))∧w=w':=by
 have HB:=Lib.hid hb;have Hn:=Lib.hid h;clear hb h;go_enter Tryz.func135,Tryz.ntmps135
 go_wp2_with (go_at_call 131;refine (get_ok _ _ _ _ _ _ _ _ HB.out Hn.out hl hs).mono ?_;rintro e w' ⟨rfl,rfl⟩);go_ret;exact ⟨rfl,rfl⟩
theorem k4_known_any (k:Int) (w:World):Calls Tryz.prog 136 #[.int .u32 k] w fun e w'=>e=.returned (.bool (knownB k))∧w=w':=by
 obtain ⟨b,hb⟩:∃b,knownB k=b:=⟨_,rfl⟩
 rw [hb];have HB:=Lib.hid hb;clear hb;go_enter Tryz.func136,Tryz.ntmps136
 go_wp2;all_goals go_ret
 all_goals refine ⟨ret_bool ?_,rfl⟩
 all_goals rw [←HB.out];simp [knownB, *]
theorem contains4_any (p m q n:Int) (w:World) (p0:0≤p) (p1:p≤18446744073709551615) (m0:0≤m) (m1:m≤18446744073709551615) (q0:0≤q) (q1:q≤18446744073709551615) (n0:0≤n) (n1:n≤18446744073709551615) :
 Calls Tryz.prog 139 #[.int .u64 p,.int .u64 m,.int .u64 q,.int .u64 n] w fun e w'=>e=.returned (.bool (contB p m q n))∧w=w':=by
 obtain ⟨b,hb⟩:∃b,contB p m q n=b:=⟨_,rfl⟩
 rw [hb];have HB:=Lib.hid hb;clear hb;by_cases h1:p≤q
 ·have e1:IntKind.u64.wrap (q-p)=q-p:=by rw [IntKind.wrap_u64];omega
  by_cases h2:q-p≤m
  ·have e2:IntKind.u64.wrap (m-(q-p))=m-(q-p):=by rw [IntKind.wrap_u64];omega
   go_enter Tryz.func139,Tryz.ntmps139
   go_wp2;all_goals go_ret
   all_goals refine ⟨ret_bool ?_,rfl⟩
   all_goals (rw [←HB.out];simp [contB, *]<;>(intros;omega))
  ·go_enter Tryz.func139,Tryz.ntmps139
   go_wp2;all_goals go_ret
   all_goals refine ⟨ret_bool ?_,rfl⟩
   all_goals (rw [←HB.out];simp [contB, *]<;>(intros;omega))
 ·go_enter Tryz.func139,Tryz.ntmps139
  go_wp2;all_goals go_ret
  all_goals refine ⟨ret_bool ?_,rfl⟩
  all_goals (rw [←HB.out];simp [contB, *]<;>(intros;omega))
theorem sget_short (a:Option Addr) (len cap:Nat) (w:World) (h:len<56) :
 Calls Tryz.prog 89 #[.slice a len cap] w fun r w'=>r=.returned (.tuple #[sg0.val,.int .i64 10])∧Below w.heap.size w w':=by
 have hi:(len:Int)<56:=by omega
 unfold sg0 Sg.val;go_enter Tryz.func89,Tryz.ntmps89
 go_wp2;refine bodyPost_ret (v:=.tuple #[.agg #[.int .u32 0,.int .u32 0,.int .u64 0,.int .u64 0,.int .u64 0,.int .u64 0,.int .u64 0],.int .i64 10]) (by simp [results,Tryz.results89,go_sem]) rfl ⟨rfl,?_⟩;exact (Below.refl _ _).alloc (Nat.le_refl _) _
theorem sget_whole (B:Nat) (a:Option Addr) (len cap:Nat) (zs:List Int) (w:World) (hb:Bys w B a len zs) (hB:B≤w.heap.size) (hcap:len≤cap) (hcm:(cap:Int)≤9223372036854775807) (h:56≤len) (y:Bool) (hy:(againS zs != (getS zs).va)=y) :
 Calls Tryz.prog 89 #[.slice a len cap] w fun r w'=>r=.returned (if y then .tuple #[sg0.val,.int .i64 11] else .tuple #[(getS zs).val,.int .i64 0])∧Below w.heap.size w w':=by
 have hi:(56:Int)≤len:=by omega
 have hli:(len:Int)≤9223372036854775807:=by omega
 have hR:∀w1,Below w.heap.size w w1→Bys w1 B a len zs:=fun w1 h1=>hb.below (h1.mono hB);have R0:Hid (∀w1,Below w.heap.size w w1→Calls Tryz.prog 135 #[.slice a len cap,.int .u64 0,.int .i64 4] w1 fun e w'=>e=.returned (.int .u64 (getS zs).ty)∧w1=w'):=Lib.hid (fun w1 h1=>k4_read_ok B a len cap zs 0 4 w1 (hR w1 h1) (by decide) hli (by omega));have R1:Hid (∀w1,Below w.heap.size w w1→Calls Tryz.prog 135 #[.slice a len cap,.int .u64 4,.int .i64 4] w1 fun e w'=>e=.returned (.int .u64 (getS zs).fl)∧w1=w'):=Lib.hid (fun w1 h1=>k4_read_ok B a len cap zs 4 4 w1 (hR w1 h1) (by decide) hli (by omega));have R2:Hid (∀w1,Below w.heap.size w w1→Calls Tryz.prog 135 #[.slice a len cap,.int .u64 8,.int .i64 8] w1 fun e w'=>e=.returned (.int .u64 (getS zs).ot)∧w1=w'):=Lib.hid (fun w1 h1=>k4_read_ok B a len cap zs 8 8 w1 (hR w1 h1) (by decide) hli (by omega));have R3:Hid (∀w1,Below w.heap.size w w1→Calls Tryz.prog 135 #[.slice a len cap,.int .u64 16,.int .i64 8] w1 fun e w'=>e=.returned (.int .u64 (getS zs).va)∧w1=w'):=Lib.hid (fun w1 h1=>k4_read_ok B a len cap zs 16 8 w1 (hR w1 h1) (by decide) hli (by omega));have R4:Hid (∀w1,Below w.heap.size w w1→Calls Tryz.prog 135 #[.slice a len cap,.int .u64 32,.int .i64 8] w1 fun e w'=>e=.returned (.int .u64 (getS zs).fi)∧w1=w'):=Lib.hid (fun w1 h1=>k4_read_ok B a len cap zs 32 8 w1 (hR w1 h1) (by decide) hli (by omega));have R5:Hid (∀w1,Below w.heap.size w w1→Calls Tryz.prog 135 #[.slice a len cap,.int .u64 40,.int .i64 8] w1 fun e w'=>e=.returned (.int .u64 (getS zs).me)∧w1=w'):=Lib.hid (fun w1 h1=>k4_read_ok B a len cap zs 40 8 w1 (hR w1 h1) (by decide) hli (by omega));have R6:Hid (∀w1,Below w.heap.size w w1→Calls Tryz.prog 135 #[.slice a len cap,.int .u64 48,.int .i64 8] w1 fun e w'=>e=.returned (.int .u64 (getS zs).al)∧w1=w'):=Lib.hid (fun w1 h1=>k4_read_ok B a len cap zs 48 8 w1 (hR w1 h1) (by decide) hli (by omega));have R7:Hid (∀w1,Below w.heap.size w w1→Calls Tryz.prog 135 #[.slice a len cap,.int .u64 24,.int .i64 8] w1 fun e w'=>e=.returned (.int .u64 (againS zs))∧w1=w'):=Lib.hid (fun w1 h1=>k4_read_ok B a len cap zs 24 8 w1 (hR w1 h1) (by decide) hli (by omega));obtain ⟨hok,hag0,hag1⟩:=getS_bd hb.2.1 (by have:=hb.1;omega);obtain ⟨S,hS⟩:∃S,getS zs=S:=⟨_,rfl⟩
 obtain ⟨A,hA⟩:∃A,againS zs=A:=⟨_,rfl⟩
 rw [hS] at R0 R1 R2 R3 R4 R5 R6 hok hy⊢;rw [hA] at R7 hag0 hag1 hy;obtain ⟨ty,fl,ot,va,fi,me,al⟩:=S;obtain ⟨⟨t0,t1⟩,⟨t2,t3⟩,⟨o0,o1⟩,⟨v0,v1⟩,⟨e0,e1⟩,⟨m0,m1⟩,⟨l0,l1⟩⟩:=hok;simp only at R0 R1 R2 R3 R4 R5 R6 t0 t1 t2 t3 o0 o1 v0 v1 e0 e1 m0 m1 l0 l1 hy;have HBL:Hid (∀o,Below w.heap.size w (w.alloc o)):=Lib.hid (fun o=>(Below.refl _ _).alloc (Nat.le_refl _) o);have HBL2:Hid (∀o o',Below w.heap.size w ((w.alloc o).alloc o')):=Lib.hid (fun o o'=>((Below.refl _ _).alloc (Nat.le_refl _) o).alloc (by simp) o');clear hb hR hS hA;unfold sg0 Sg.val at *;go_enter Tryz.func89,Tryz.ntmps89
 go_wp2_with (first | (go_at_call 135;with_reducible refine (R0.out _ (HBL.out _)).mono ?_;rintro r w' ⟨rfl,rfl⟩) | (go_at_call 135;with_reducible refine (R1.out _ (HBL.out _)).mono ?_;rintro r w' ⟨rfl,rfl⟩) | (go_at_call 135;with_reducible refine (R2.out _ (HBL.out _)).mono ?_;rintro r w' ⟨rfl,rfl⟩) | (go_at_call 135;with_reducible refine (R3.out _ (HBL.out _)).mono ?_;rintro r w' ⟨rfl,rfl⟩) | (go_at_call 135;with_reducible refine (R4.out _ (HBL.out _)).mono ?_;rintro r w' ⟨rfl,rfl⟩) | (go_at_call 135;with_reducible refine (R5.out _ (HBL.out _)).mono ?_;rintro r w' ⟨rfl,rfl⟩) | (go_at_call 135;with_reducible refine (R6.out _ (HBL.out _)).mono ?_;rintro r w' ⟨rfl,rfl⟩));go_quiet (first | (go_at_call 135;refine Calls.quiet_of_same ((R7.out _ (below_drewN (HBL2.out _ _) _)).mono fun _ _ h=>⟨h.1,h.2.symm⟩)))
 cases y with
 | true=>
   go_wp2;refine bodyPost_ret (v:=.tuple #[.agg #[.int .u32 0,.int .u32 0,.int .u64 0,.int .u64 0,.int .u64 0,.int .u64 0,.int .u64 0],.int .i64 11]) (by simp [results,Tryz.results89,go_sem]) rfl ⟨rfl,?_⟩;exact ((((((((below_drewN (HBL2.out _ _) _).setCell (Nat.le_refl _) _).setCell (Nat.le_refl _) _).setCell (Nat.le_refl _) _).setCell (Nat.le_refl _) _).setCell (Nat.le_refl _) _).setCell (Nat.le_refl _) _).setCell (Nat.le_refl _) _)
 | false=>
   go_wp2;refine bodyPost_ret (v:=.tuple #[.agg #[.int .u32 ty,.int .u32 fl,.int .u64 ot,.int .u64 va,.int .u64 fi,.int .u64 me,.int .u64 al],.int .i64 0]) (by simp [results,Tryz.results89,go_sem]) rfl ⟨rfl,?_⟩;exact ((((((((below_drewN (HBL2.out _ _) _).setCell (Nat.le_refl _) _).setCell (Nat.le_refl _) _).setCell (Nat.le_refl _) _).setCell (Nat.le_refl _) _).setCell (Nat.le_refl _) _).setCell (Nat.le_refl _) _).setCell (Nat.le_refl _) _)
theorem sget_any (B:Nat) (a:Option Addr) (len cap:Nat) (zs:List Int) (w:World) (hb:Bys w B a len zs) (hB:B≤w.heap.size) (hcap:len≤cap) (hcm:(cap:Int)≤9223372036854775807) :
 Calls Tryz.prog 89 #[.slice a len cap] w fun r w'=>r=.returned (k4_getV zs)∧Below w.heap.size w w':=by
 have hz:=hb.1;unfold k4_getV;by_cases h:zs.length<56
 ·rw [if_pos h];exact sget_short a len cap w (by omega)
 ·rw [if_neg h];by_cases hv:againS zs=(getS zs).va
  ·rw [if_pos hv];exact sget_whole B a len cap zs w hb hB hcap hcm (by omega) false (by simpa using hv)
  ·rw [if_neg hv];exact sget_whole B a len cap zs w hb hB hcap hcm (by omega) true (by simpa using hv)
theorem cut_range (a:Option Addr) (len cap:Nat) (p s:Int) (w:World) (hl:(len:Int)≤9223372036854775807) (hp0:0≤p) (hp1:p≤18446744073709551615) (hs0:0≤s) (hs1:s≤18446744073709551615) (h:(len:Int)<p+s) :
 Calls Tryz.prog 49 #[.slice a len cap,.int .u64 p,.int .u64 s] w fun e w'=>e=.returned (.tuple #[.slice none 0 0,.int .i64 10])∧w=w':=by
 go_enter Tryz.func49,Tryz.ntmps49
 go_wp2_with (go_at_call 95;refine (contains_no _ _ _ _ _ _ hl hp0 hp1 hs0 hs1 h).mono ?_;rintro e w' ⟨rfl,rfl⟩);go_ret2;exact ⟨rfl,rfl⟩
theorem cut_some (B:Nat) (a:Option Addr) (len cap:Nat) (zs:List Int) (p s:Nat) (w:World) (hb:Bys w B a len zs) (hB:B≤w.heap.size) (hcap:len≤cap) (hcm:(cap:Int)≤9223372036854775807) (hl:len≤140737488355328) (hs:p+s≤len) (h0:0<s) :
 Calls Tryz.prog 49 #[.slice a len cap,.int .u64 p,.int .u64 s] w fun e w'=>
  e=.returned (.tuple #[.slice (some ⟨w.heap.size,0,none⟩) s s,.int .i64 0])∧w'.ownsRow w.heap.size 5 1 (.slice (some ⟨w.heap.size,0,none⟩) s s) s ((piece zs p s).map (Value.int .u8))∧Below w.heap.size w w':=by
 obtain ⟨i0,hi,hz0,hz1,hz2⟩:=info_parts info_u8;have HBYS:=Lib.hid hb;have hsi:(p:Int)+(s:Int)≤(len:Int):=by omega
 have hli:(len:Int)≤9223372036854775807:=by omega
 have hsl:s≤140737488355328:=by omega
 have HI:=Lib.hid hi;have HZ0:=Lib.hid hz0;have HZ1:=Lib.hid hz1;have HZ2:=Lib.hid hz2;have HPL:=Lib.hid (piece_len (zs:=zs) (p:=p) (n:=s) (by have:=hb.1;omega));clear hb hi hz0 hz1 hz2;go_enter Tryz.func49,Tryz.ntmps49
 go_wp2_with (first | (go_at_call 95;refine (contains_yes _ _ _ _ _ _ hli (by omega) (by omega) hsi).mono ?_;rintro e w' ⟨rfl,rfl⟩) | (at_make;refine wpList_make_full _ rfl _ _ 22 rfl w.heap.size 5 i0 (.int .u8 0) 1 Tryz.underlying22 HI.out HZ0.out HZ1.out .u64 .u64 _ _ s rfl rfl rfl rfl ?c1 ?c2 ?c3 ?_));case c1=>rw [HZ2.out];omega
 case c2=>unfold maxLen;omega
 case c3=>exact Nat.le_refl _
 intro w1 hown hg;have hb1:Below w.heap.size w w1:=(Below.refl _ _).grown hg (Nat.le_refl _) (fun _ e=>by cases e);have HW:=Lib.hid (own_whole hown);rw [toList_madeCells_one] at HW;clear hown hg;obtain ⟨b,off,rfl,hbB,hcell⟩:=HBYS.out.2.2 (by omega);have HSRC:=Lib.hid (Bys.src (w:=w1) (b:=b) (off:=off+p) (zs:=piece zs p s) (len:=s) HPL.out (fun i hi=>by
  rw [piece_getD hi,Nat.add_assoc];exact (hb1.cell (p:=⟨b,off+(p+i),none⟩) (by show b<_;omega)).trans (hcell (p+i) (by omega))))
 clear hcell;go_wp2_with (with_reducible refine wpList_copy_splice rfl _ _ 22 22 rfl 5 Tryz.underlying22 size_u8 _ _ _ _ _ _ rfl rfl w.heap.size 0 (List.replicate s (.int .u8 0)) 5 HW.out ((piece zs p s).map (Value.int .u8)) ?d1 (fun _=>⟨rfl,_,rfl,HSRC.out⟩) ?d3 ?d4 w.heap.size w hb1 (Nat.le_refl _) ?_);case d1=>rw [List.length_map,HPL.out];rw [Nat.add_sub_cancel_left];exact (Nat.min_self s).symm
 case d3=>rw [List.length_map,List.length_replicate,HPL.out];omega
 case d4=>exact one_u8 _
 intro w2 HG hb2;have HO:=HG.out;rw [splice_all _ _ (by rw [List.length_map,List.length_replicate,HPL.out])] at HO;have HOWN:=Lib.hid (own_of_whole (base:=w.heap.size) (n:=s) (Nat.le_refl _) (by unfold maxLen;omega) (by rw [List.length_map,HPL.out]) HO);clear HG HO HW HSRC hb1;go_wp2;go_ret2;exact ⟨rfl,HOWN.out,hb2⟩
theorem cut_none (B:Nat) (a:Option Addr) (len cap:Nat) (zs:List Int) (p s:Nat) (w:World) (hb:Bys w B a len zs) (hB:B≤w.heap.size) (hcap:len≤cap) (hcm:(cap:Int)≤9223372036854775807) (hl:len≤140737488355328) (hs:p+s≤len) (h0:s=0) :
 Calls Tryz.prog 49 #[.slice a len cap,.int .u64 p,.int .u64 s] w fun e w'=>
  e=.returned (.tuple #[.slice (some ⟨w.heap.size,0,none⟩) s s,.int .i64 0])∧w'.ownsRow w.heap.size 5 1 (.slice (some ⟨w.heap.size,0,none⟩) s s) s ((piece zs p s).map (Value.int .u8))∧Below w.heap.size w w':=by
 obtain ⟨i0,hi,hz0,hz1,hz2⟩:=info_parts info_u8;have HBYS:=Lib.hid hb;have hsi:(p:Int)+(s:Int)≤(len:Int):=by omega
 have hli:(len:Int)≤9223372036854775807:=by omega
 have hsl:s≤140737488355328:=by omega
 have HI:=Lib.hid hi;have HZ0:=Lib.hid hz0;have HZ1:=Lib.hid hz1;have HZ2:=Lib.hid hz2;have HPL:=Lib.hid (piece_len (zs:=zs) (p:=p) (n:=s) (by have:=hb.1;omega));clear hb hi hz0 hz1 hz2;clear HPL;subst h0;go_enter Tryz.func49,Tryz.ntmps49
 go_wp2_with (first | (go_at_call 95;refine (contains_yes _ _ _ _ _ _ hli (by omega) (by omega) hsi).mono ?_;rintro e w' ⟨rfl,rfl⟩) | (at_make;refine wpList_make_full _ rfl _ _ 22 rfl w.heap.size 5 i0 (.int .u8 0) 1 Tryz.underlying22 HI.out HZ0.out HZ1.out .u64 .u64 _ _ 0 rfl rfl rfl rfl ?c1 ?c2 ?c3 ?_));case c1=>rw [HZ2.out];omega
 case c2=>unfold maxLen;omega
 case c3=>exact Nat.le_refl _
 intro w1 hown hg;have hb1:Below w.heap.size w w1:=(Below.refl _ _).grown hg (Nat.le_refl _) (fun _ e=>by cases e);have HW:=Lib.hid (own_whole hown);rw [toList_madeCells_one] at HW;clear hown hg;go_wp2_with (with_reducible refine wpList_copy_splice rfl _ _ 22 22 rfl 5 Tryz.underlying22 size_u8 _ _ _ _ _ _ rfl rfl w.heap.size 0 (List.replicate 0 (.int .u8 0)) 5 HW.out [] ?d1 (fun h=>absurd h (by decide)) ?d3 ?d4 w.heap.size w hb1 (Nat.le_refl _) ?_);case d1=>rfl
 case d3=>exact Nat.le_refl _
 case d4=>exact fun _ h=>by cases h
 all_goals
  intro w2 HG hb2;have HOWN:=Lib.hid (own_of_whole (xs:=[]) (base:=w.heap.size) (n:=0) (Nat.le_refl _) (by unfold maxLen;omega) rfl (splice_all (List.replicate 0 (Value.int .u8 0)) [] rfl▸HG.out));clear HG HW hb1;go_wp2;go_ret2;exact ⟨rfl,HOWN.out,hb2⟩
theorem cut_ok (B:Nat) (a:Option Addr) (len cap:Nat) (zs:List Int) (p s:Nat) (w:World) (hb:Bys w B a len zs) (hB:B≤w.heap.size) (hcap:len≤cap) (hcm:(cap:Int)≤9223372036854775807) (hl:len≤140737488355328) (hs:p+s≤len) :
 Calls Tryz.prog 49 #[.slice a len cap,.int .u64 p,.int .u64 s] w fun e w'=>
  e=.returned (.tuple #[.slice (some ⟨w.heap.size,0,none⟩) s s,.int .i64 0])∧w'.ownsRow w.heap.size 5 1 (.slice (some ⟨w.heap.size,0,none⟩) s s) s ((piece zs p s).map (Value.int .u8))∧Below w.heap.size w w':=by
 rcases Nat.eq_zero_or_pos s with h0 | h0
 ·exact cut_none B a len cap zs p s w hb hB hcap hcm hl hs h0
 ·exact cut_some B a len cap zs p s w hb hB hcap hcm hl hs h0

theorem info_seg:(Tryz.prog.info? 65).map (fun i=>(i.zero,i.size,i.bytes))=some (some (.agg #[.int .u32 0,.int .u32 0,.int .u64 0,.int .u64 0,.int .u64 0,.int .u64 0,.int .u64 0]),7,48):=by kernel_rfl
theorem own7_below {w w':World} {base n:Nat} {e:TypeId} {v:Value} {xs:List Value} (h:w.ownsRow base e 7 v n xs) (hb:Below w.heap.size w w'):w'.ownsRow base e 7 v n xs:=
 h.kept (row:=none) ⟨hb.os,hb.tape,hb.output,hb.size,fun k hk _=>hb.block k hk⟩ (by cases v.ownBlock<;>simp)
theorem own7_base {w:World} {base base' n:Nat} {e:TypeId} {v:Value} {xs:List Value} (h:w.ownsRow base e 7 v n xs) (hb:base'≤base):w.ownsRow base' e 7 v n xs:=by
 obtain ⟨hl,⟨hv,e0⟩ | ⟨g,cap,cur,hv,hg,r⟩⟩:=h
 ·exact ⟨hl,.inl ⟨hv,e0⟩⟩
 ·exact ⟨hl,.inr ⟨g,cap,cur,hv,Nat.le_trans hb hg,r⟩⟩
theorem own7_slice {w:World} {base n:Nat} {e:TypeId} {v:Value} {xs:List Value} (h:w.ownsRow base e 7 v n xs):∃a c,v=.slice a n c∧n≤c∧(c:Int)≤9223372036854775807:=by
 rcases h.2 with ⟨hv,e0⟩ | ⟨g,c,cur,hv,_,_,h1,h2,_⟩
 ·exact ⟨none,0,by rw [hv,e0],by omega,by omega⟩
 ·exact ⟨_,_,hv,h1,by unfold maxLen at h2;omega⟩
theorem lit_cells (w:World) (L:List Value) (t:TypeId) (g:Nat) (hg:g=w.heap.size):∀(j:Nat) (u:Value),L[j]?=some u→(w.alloc (.cells L.toArray t)).cell? ((⟨g,0,none⟩:Addr).add j)=some u:=by
 intro j u hj;subst hg;rw [add_none,Nat.zero_add,(Blk.new w _ _).cell];simpa using hj
theorem rest_eq (g o k m:Nat) (ho:o=56*k):Value.slice (if 56*(m+1)=56 then some ⟨g,o,none⟩ else some ⟨g,o+56,none⟩) (56*(m+1)-56) (56*(m+1)-56)=.slice (some ⟨g,if m=0 then o else 56*(k+1),none⟩) (56*m) (56*m):=by
 subst ho;have e:56*(m+1)-56=56*m:=by omega
 rw [e];by_cases h:m=0
 ·subst h;rfl
 ·rw [if_neg (by omega),if_neg h,show 56*k+56=56*(k+1) by omega]
def segAt (C:List Int) (k:Nat):Sg:=getS (piece C (56*k) 56)
def goodAt (C:List Int) (k:Nat):Prop:=againS (piece C (56*k) 56)=(segAt C k).va
instance (C:List Int) (k:Nat):Decidable (goodAt C k):=by unfold goodAt;exact inferInstance
def k4_tabS (C:List Int) (n:Nat):List Sg:=(List.range n).map (segAt C)
def goodT (C:List Int) (n:Nat):Bool:=decide (∀j,j<n→goodAt C j)
theorem k4_tabS_len (C:List Int) (n:Nat):(k4_tabS C n).length=n:=by simp [k4_tabS]
theorem k4_tabS_succ (C:List Int) (k:Nat):k4_tabS C (k+1)=k4_tabS C k++[segAt C k]:=by simp [k4_tabS,List.range_succ]
theorem k4_tabS_ok {C:List Int} {n:Nat} (hb:∀x∈C,0≤x∧x≤255) (hl:C.length=56*n):∀s∈k4_tabS C n,s.Ok:=by
 intro s hs;simp only [k4_tabS,List.mem_map,List.mem_range] at hs;obtain ⟨k,hk,rfl⟩:=hs;exact (getS_bd (piece_mem hb) (by rw [piece_len (by omega)];exact Nat.le_refl _)).1
theorem getV_at {C:List Int} {n k m:Nat} (h:k+(m+1)=n) (hl:C.length=56*n):k4_getV (piece C (56*k) (56*(m+1)))=if goodAt C k then .tuple #[(segAt C k).val,.int .i64 0] else .tuple #[sg0.val,.int .i64 11]:=by
 have e1:getS (piece C (56*k) (56*(m+1)))=segAt C k:=by
  unfold segAt getS;simp only [k4_piece_piece (zs:=C) (p:=56*k) (n:=56*(m+1)) (show 0+4≤56*(m+1) by omega),k4_piece_piece (zs:=C) (p:=56*k) (n:=56*(m+1)) (show 4+4≤56*(m+1) by omega),k4_piece_piece (zs:=C) (p:=56*k) (n:=56*(m+1)) (show 8+8≤56*(m+1) by omega),k4_piece_piece (zs:=C) (p:=56*k) (n:=56*(m+1)) (show 16+8≤56*(m+1) by omega),k4_piece_piece (zs:=C) (p:=56*k) (n:=56*(m+1)) (show 32+8≤56*(m+1) by omega),k4_piece_piece (zs:=C) (p:=56*k) (n:=56*(m+1)) (show 40+8≤56*(m+1) by omega),k4_piece_piece (zs:=C) (p:=56*k) (n:=56*(m+1)) (show 48+8≤56*(m+1) by omega),
   k4_piece_piece (zs:=C) (p:=56*k) (n:=56) (show 0+4≤56 by omega),k4_piece_piece (zs:=C) (p:=56*k) (n:=56) (show 4+4≤56 by omega),k4_piece_piece (zs:=C) (p:=56*k) (n:=56) (show 8+8≤56 by omega),k4_piece_piece (zs:=C) (p:=56*k) (n:=56) (show 16+8≤56 by omega),k4_piece_piece (zs:=C) (p:=56*k) (n:=56) (show 32+8≤56 by omega),k4_piece_piece (zs:=C) (p:=56*k) (n:=56) (show 40+8≤56 by omega),k4_piece_piece (zs:=C) (p:=56*k) (n:=56) (show 48+8≤56 by omega)]
 have e2:againS (piece C (56*k) (56*(m+1)))=againS (piece C (56*k) 56):=by
  unfold againS;rw [k4_piece_piece (show 24+8≤56*(m+1) by omega),k4_piece_piece (show 24+8≤56 by omega)]
 unfold k4_getV;rw [if_neg (by rw [piece_len (by omega)];omega),e1,e2];rfl
theorem goodT_no {C:List Int} {n k:Nat} (hk:k<n) (h:¬goodAt C k):goodT C n=false:=by
 unfold goodT;rw [decide_eq_false_iff_not];exact fun hh=>h (hh k hk)
theorem goodT_yes {C:List Int} {n:Nat} (h:∀j,j<n→goodAt C j):goodT C n=true:=by
 unfold goodT;rw [decide_eq_true_eq];exact h
def TabPost (C:List Int) (n:Nat) (base:Nat) (r:Ending) (w':World):Prop:=
 ∃v e,r=.returned (.tuple #[v,.int .i64 e])∧((goodT C n=true∧e=0∧w'.ownsRow base 65 7 v n (flatS (k4_tabS C n)))∨(goodT C n=false∧e=11∧v=.slice none 0 0))
theorem stable_arg (a:Option Addr) (len cap:Nat) (p n:Int) (w:World) (h:n<0∨64<n) :
 Calls Tryz.prog 46 #[.slice a len cap,.int .u64 p,.int .i64 n] w fun r w'=>r=.returned (.tuple #[.slice none 0 0,.int .i64 1])∧Below w.heap.size w w':=by
 by_cases h0:n<0
 ·go_enter Tryz.func46,Tryz.ntmps46
  go_wp2;go_ret2;exact ⟨rfl,Below.refl _ _⟩
 ·have h1:64<n:=by omega
  go_enter Tryz.func46,Tryz.ntmps46
  go_wp2;go_ret2;exact ⟨rfl,Below.refl _ _⟩
theorem stable_range (a:Option Addr) (len cap:Nat) (p:Int) (n:Nat) (w:World) (hn:n≤64) (hl:(len:Int)≤9223372036854775807) (p0:0≤p) (p1:p≤18446744073709551615) (h:(len:Int)<p+56*n) :
 Calls Tryz.prog 46 #[.slice a len cap,.int .u64 p,.int .i64 n] w fun r w'=>r=.returned (.tuple #[.slice none 0 0,.int .i64 10])∧Below w.heap.size w w':=by
 have hn0:(0:Int)≤n:=by omega
 have hn1:(n:Int)≤64:=by omega
 have hC:=Lib.hid (fun w1=>cut_range a len cap p (56*n) w1 hl p0 p1 (by omega) (by omega) h);go_enter Tryz.func46,Tryz.ntmps46
 go_wp2_with (go_at_call 49;refine (hC.out _).mono ?_;rintro e w' ⟨rfl,rfl⟩);go_ret2;exact ⟨rfl,Below.refl _ _⟩
theorem stable_fits (B:Nat) (a:Option Addr) (len cap:Nat) (zs:List Int) (p n:Nat) (w:World) (hb:Bys w B a len zs) (hB:B≤w.heap.size) (hcap:len≤cap) (hcm:(cap:Int)≤9223372036854775807) (hl:len≤140737488355328) (hn:n≤64) (h:p+56*n≤len) :
 Calls Tryz.prog 46 #[.slice a len cap,.int .u64 p,.int .i64 n] w fun r w'=>TabPost (piece zs p (56*n)) n w.heap.size r w'∧Below w.heap.size w w':=by
 obtain ⟨i0,hi,hz0,hz1,hz2⟩:=info_parts info_seg;have HI:=Lib.hid hi;have HZ0:=Lib.hid hz0;have HZ1:=Lib.hid hz1;have HZ2:=Lib.hid hz2;have hn0:(0:Int)≤n:=by omega
 have hn1:(n:Int)≤64:=by omega
 have hC:=Lib.hid (cut_ok B a len cap zs p (56*n) w hb hB hcap hcm hl h);have hCl:(piece zs p (56*n)).length=56*n:=piece_len (by have:=hb.1;omega);have hCb:∀x∈piece zs p (56*n),0≤x∧x≤255:=piece_mem hb.2.1;generalize piece zs p (56*n)=C at *;have HCL:=Lib.hid hCl;have HCB:=Lib.hid hCb;clear hb hi hz0 hz1 hz2 hCl hCb;have hcast:((56*n:Nat):Int)=56*(n:Int):=by omega
 rw [hcast] at hC;go_enter Tryz.func46,Tryz.ntmps46
 go_wp2_with fail;refine hC.out.mono ?_;rintro r w1 ⟨rfl,hown,hb1⟩;have HBY:=Lib.hid (Bys.own HCB.out hown);have HB1:=Lib.hid hb1;have hh:=hb1.size;obtain ⟨g,hg⟩:∃g,w.heap.size=g:=⟨_,rfl⟩
 rw [hg] at HBY⊢;clear hown hb1 hC;go_wp2_with (at_make;refine wpList_make_own _ rfl _ _ 27 rfl w1.heap.size 65 i0 _ 7 Tryz.underlying27 HI.out HZ0.out HZ1.out .i64 .i64 _ n rfl rfl rfl ?c1 ?c2 ?c3 ?_);case c1=>rw [HZ2.out];omega
 case c2=>unfold maxLen;omega
 case c3=>exact Nat.le_refl _
 intro w2 hown2 hg2;have hb2:Below w1.heap.size w1 w2:=(Below.refl _ _).grown hg2 (Nat.le_refl _) (fun _ e=>by cases e);have HO2:=Lib.hid hown2;have HB2:=Lib.hid hb2;clear hown2 hg2 hb2;go_wp2;go_loopw [8,10,11,12,34] (fun rest l _ _ i wr=>∃k m o:Nat,k+m=n∧i=.int .i64 k∧(0<m→o=56*k)∧rest=.slice (some ⟨g,o,none⟩) (56*m) (56*m)∧wr.ownsRow w1.heap.size 65 7 l k (flatS (k4_tabS C k))∧(∀j,j<k→goodAt C j)∧Below w1.heap.size w1 wr) (fun _ _ _ _ i _=>n-(intOf i).toNat)
 case atStart=>exact ⟨0,n,0,by omega,rfl,fun _=>rfl,rfl,HO2.out,fun j hj=>absurd hj (by omega),HB2.out⟩
 case round=>
  obtain ⟨k,m,o,hkm,rfl,ho,rfl,hown,hgood,hbel⟩:=hrel;obtain ⟨la,lc,rfl,-,-⟩:=own7_slice hown;rcases m with _ | m
  ·obtain rfl:k=n:=by omega
   have HGY:=Lib.hid (goodT_yes hgood);have HOW:=Lib.hid hown;have HBE:=Lib.hid hbel;clear hown hgood hbel;go_wp2;go_ret2;exact ⟨⟨_,_,rfl,.inl ⟨HGY.out,rfl,own7_base HOW.out hh⟩⟩,HB1.out.trans (HBE.out.mono hh)⟩
  ·obtain rfl:=ho (by omega);have hkn:k<n:=by omega
   have hkn':(k:Int)<n:=by omega
   have HRE:=Lib.hid (rest_eq g (56*k) k m rfl);have hsub:=((HBY.out.below hbel).sub (p:=56*k) (n:=56*(m+1)) (by omega))
   rw [Nat.zero_add] at hsub;have hget:=sget_any w1.heap.size (some ⟨g,56*k,none⟩) (56*(m+1)) (56*(m+1)) _ wr hsub hbel.size (Nat.le_refl _) (by omega);rw [getV_at hkm HCL.out] at hget;have HTS:=Lib.hid (k4_tabS_succ C k);have HGN:=Lib.hid (goodT_no (C:=C) hkn);have HGS:Hid (goodAt C k→∀j,j<k+1→goodAt C j):=Lib.hid (fun h j hj=>by
    by_cases e:j=k
    ·subst e;exact h
    ·exact hgood j (by omega))
   have HOW:=Lib.hid hown;have HBE:=Lib.hid hbel;have hbs:=hbel.size;clear hown hgood hbel hsub;by_cases hg:goodAt C k
   ·rw [if_pos hg] at hget;have hgs:=Lib.hid (HGS.out hg);obtain ⟨s,hs⟩:∃s,segAt C k=s:=⟨_,rfl⟩
    rw [hs] at hget HTS;obtain ⟨ty,fl,ot,va,fi,me,al⟩:=s;unfold Sg.val at hget;have HG:=Lib.hid hget;clear hget HGN HGS hs hg;go_wp2_with fail;refine HG.out.mono ?_;rintro e w3 ⟨rfl,hb3⟩;have HO3:=Lib.hid (own7_below HOW.out hb3);have HB3:=Lib.hid (HBE.out.trans (hb3.mono hbs));clear hb3;go_wp2_with (at_builtin;refine wpList_append_own _ rfl _ _ 27 rfl w1.heap.size 65 i0 _ 7 48 Tryz.underlying27 HI.out HZ0.out HZ1.out HZ2.out rfl (by decide) _ k _ rfl ((HO3.out.alloc _).alloc _) _ 1 1 [.int .u32 ty,.int .u32 fl,.int .u64 ot,.int .u64 va,.int .u64 fi,.int .u64 me,.int .u64 al] rfl rfl ?d1 ?d2 ?d3 ?d4 ?d5 ?_);case d1=>exact lit_cells (w3.alloc _) [.int .u32 ty,.int .u32 fl,.int .u64 ot,.int .u64 va,.int .u64 fi,.int .u64 me,.int .u64 al] _ _ (by simp)
    case d2=>intro u hu;simp at hu;rcases hu with rfl | rfl | rfl | rfl | rfl | rfl | rfl<;>rfl
    case d3=>unfold maxLen;omega
    case d4=>omega
    case d5=>have:=HB3.out.size;simp;omega
    intro v4 w4 hown4 hg4 _;have HO4:Hid (w4.ownsRow w1.heap.size 65 7 v4 (k+1) (flatS (k4_tabS C (k+1)))):=Lib.hid (by rw [HTS.out,flatS_snoc];exact hown4);have hb4:Below w1.heap.size w1 w4:=((HB3.out.alloc HB3.out.size _).alloc (by have:=HB3.out.size;simp;omega) _).grown hg4 (by have:=HB3.out.size;simp;omega) (fun q e=>(HO3.out.lt q e).1);clear hown4 hg4;go_wp2;go_roundw
    case rel=>exact ⟨k+1,m,if m=0 then 56*k else 56*(k+1),by omega,by go_num,fun h=>if_neg (by omega),HRE.out,HO4.out,hgs.out,hb4⟩
    case measure=>(simp [intOf]<;>omega)
   ·rw [if_neg hg] at hget;have HF:=Lib.hid (HGN.out hg);unfold sg0 Sg.val at hget;have HG:=Lib.hid hget;clear hget HGN HGS hg;go_wp2_with fail;refine HG.out.mono ?_;rintro e w3 ⟨rfl,hb3⟩;have HB3:=Lib.hid (HBE.out.trans (hb3.mono hbs));clear hb3;go_wp2;go_ret2;exact ⟨⟨_,_,rfl,.inr ⟨HF.out,rfl,rfl⟩⟩,HB1.out.trans ((HB3.out.alloc HB3.out.size _).mono hh)⟩
def k4_tabR (zs:List Int) (p n:Int):Int×List Sg:=
 if n<0∨64<n then (1,[])
 else if (zs.length:Int)<p+56*n then (10,[])
 else if goodT (piece zs p.toNat (56*n.toNat)) n.toNat=true then (0,k4_tabS (piece zs p.toNat (56*n.toNat)) n.toNat) else (11,[])
theorem k4_tabR_ok {zs:List Int} (hb:∀x∈zs,0≤x∧x≤255) {p n:Int} (p0:0≤p):(∀s∈(k4_tabR zs p n).2,s.Ok)∧(k4_tabR zs p n).2.length≤64:=by
 unfold k4_tabR;split
 ·exact ⟨fun s hs=>by simp at hs,by simp⟩
 ·split
  ·exact ⟨fun s hs=>by simp at hs,by simp⟩
  ·split
   ·refine ⟨k4_tabS_ok (piece_mem hb) (piece_len (by omega)),?_⟩;simp only [k4_tabS_len];omega
   ·exact ⟨fun s hs=>by simp at hs,by simp⟩
theorem tab_post {zs:List Int} {p n:Nat} {w w':World} {r:Ending} (h0:¬((n:Int)<0∨64<(n:Int))) (h1:¬(zs.length:Int)<(p:Int)+56*(n:Int)) (h:TabPost (piece zs p (56*n)) n w.heap.size r w') :
 ∃v,r=.returned (.tuple #[v,.int .i64 (k4_tabR zs p n).1])∧w'.ownsRow w.heap.size 65 7 v (k4_tabR zs p n).2.length (flatS (k4_tabR zs p n).2):=by
 obtain ⟨v,e,rfl,⟨hg,rfl,ho⟩ | ⟨hg,rfl,rfl⟩⟩:=h
 all_goals
  unfold k4_tabR;rw [if_neg h0,if_neg h1];simp only [Int.toNat_natCast,hg]
 ·exact ⟨v,rfl,by simpa [k4_tabS_len] using ho⟩
 ·exact ⟨_,rfl,World.ownsRow_nil _ _ _ _⟩
theorem k4_stable_any (B:Nat) (a:Option Addr) (len cap:Nat) (zs:List Int) (p n:Int) (w:World) (hb:Bys w B a len zs) (hB:B≤w.heap.size) (hcap:len≤cap) (hcm:(cap:Int)≤9223372036854775807) (hl:len≤140737488355328) (p0:0≤p) (p1:p≤18446744073709551615) :
 Calls Tryz.prog 46 #[.slice a len cap,.int .u64 p,.int .i64 n] w fun r w'=>(∃v,r=.returned (.tuple #[v,.int .i64 (k4_tabR zs p n).1])∧w'.ownsRow w.heap.size 65 7 v (k4_tabR zs p n).2.length (flatS (k4_tabR zs p n).2))∧Below w.heap.size w w':=by
 have hz:=hb.1;by_cases h0:n<0∨64<n
 ·refine (stable_arg a len cap p n w h0).mono ?_;rintro r w' ⟨rfl,h⟩;unfold k4_tabR;rw [if_pos h0];exact ⟨⟨_,rfl,World.ownsRow_nil _ _ _ _⟩,h⟩
 ·obtain ⟨n,rfl⟩:=Int.eq_ofNat_of_zero_le (show 0≤n by omega);by_cases h1:(zs.length:Int)<p+56*n
  ·refine (stable_range a len cap p n w (by omega) (by omega) p0 p1 (by omega)).mono ?_;rintro r w' ⟨rfl,h⟩;unfold k4_tabR;rw [if_neg h0,if_pos h1];exact ⟨⟨_,rfl,World.ownsRow_nil _ _ _ _⟩,h⟩
  ·obtain ⟨p,rfl⟩:=Int.eq_ofNat_of_zero_le p0;refine (stable_fits B a len cap zs p n w hb hB hcap hcm hl (by omega) (by omega)).mono ?_;rintro r w' ⟨ht,h⟩;exact ⟨tab_post h0 h1 ht,h⟩
def IsP2 (a:Int):Prop:=∃k:Nat,k<64∧a=2 ^ k
theorem nat_and_pow (k:Nat):2 ^ k &&& (2 ^ k-1)=0:=by
 rw [Nat.and_two_pow_sub_one_eq_mod,Nat.mod_self]
theorem nat_andNot_pow (x k:Nat) (hx:x<2 ^ 64) (hk:k<64):x &&& (18446744073709551615-(2 ^ k-1))=x / 2 ^ k*2 ^ k:=by
 have e:18446744073709551615-(2 ^ k-1)=(2 ^ (64-k)-1)*2 ^ k:=by
  have h1:2 ^ (64-k)*2 ^ k=2 ^ 64:=by rw [←Nat.pow_add];congr 1;omega
  have h2:0<2 ^ k:=Nat.pow_pos (by decide);rw [Nat.sub_mul,h1];have h3:(2:Nat) ^ 64=18446744073709551616:=by decide
  omega
 rw [e,←Nat.shiftLeft_eq,←Nat.shiftLeft_eq,←Nat.shiftRight_eq_div_pow];apply Nat.eq_of_testBit_eq
 intro i;rw [Nat.testBit_and,Nat.testBit_shiftLeft,Nat.testBit_shiftLeft,Nat.testBit_shiftRight,Nat.testBit_two_pow_sub_one];by_cases hki:k≤i
 ·rw [show k+(i-k)=i from by omega];by_cases hi:i<64
  ·simp [hki,show i-k<64-k from by omega]
  ·have:x.testBit i=false:=Nat.testBit_lt_two_pow (Nat.lt_of_lt_of_le hx (Nat.pow_le_pow_right (by decide) (by omega)));simp [this]
 ·simp [hki]
theorem pow2_bd {k:Nat} (h:k<64):1≤(2:Int) ^ k∧(2:Int) ^ k≤9223372036854775808:=by
 have e:(2:Int) ^ k=((2 ^ k:Nat):Int):=by rw [Int.natCast_pow];rfl
 have h1:0<2 ^ k:=Nat.pow_pos (by decide);have h2:2 ^ k≤2 ^ 63:=Nat.pow_le_pow_right (by decide) (by omega);have h3:(2:Nat) ^ 63=9223372036854775808:=by decide
 rw [e];omega
theorem toNat_pow2 (k:Nat):((2:Int) ^ k).toNat=2 ^ k:=by
 have e:(2:Int) ^ k=((2 ^ k:Nat):Int):=by rw [Int.natCast_pow];rfl
 rw [e,Int.toNat_natCast]
theorem and_p2 {a:Int} (h:IsP2 a):bits .and .u64 a (a-1)=0:=by
 obtain ⟨k,hk,rfl⟩:=h;have hb:=pow2_bd hk;rw [u64_and _ _ (by omega) (by omega) (by omega) (by omega),toNat_pow2,show ((2:Int) ^ k-1).toNat=2 ^ k-1 from by have:=toNat_pow2 k;omega,nat_and_pow];rfl
theorem andNot_p2 {a x:Int} (h:IsP2 a) (x0:0≤x) (x1:x≤18446744073709551615):bits .andNot .u64 x (a-1)=x / a*a:=by
 obtain ⟨k,hk,rfl⟩:=h;have hb:=pow2_bd hk;obtain ⟨n,rfl⟩:=Int.eq_ofNat_of_zero_le x0;have h3:(2:Nat) ^ 64=18446744073709551616:=by decide
 rw [u64_andNot _ _ (by omega) (by omega) (by omega) (by omega),Int.toNat_natCast,show ((2:Int) ^ k-1).toNat=2 ^ k-1 from by have:=toNat_pow2 k;omega,nat_andNot_pow n k (by omega) hk];rw [Int.natCast_mul,Int.natCast_ediv,Int.natCast_pow];rfl
theorem mult_p2 {a x:Int} (h:IsP2 a) (x0:0≤x) (x1:x≤18446744073709551615) :
 0≤x / a*a∧x / a*a≤x∧x<x / a*a+a∧x / a*a+a≤18446744073709551616∧(x / a=18446744073709551615 / a↔x / a*a+a=18446744073709551616)∧(x % a=0↔x / a*a=x)∧(x / a+1)*a=x / a*a+a∧0≤x / a∧x / a≤x:=by
 obtain ⟨k,hk,rfl⟩:=h;have hb:=pow2_bd hk;have hM:(2:Int) ^ (64-k)*2 ^ k=18446744073709551616:=by rw [←Int.pow_add,show 64-k+k=64 from by omega];rfl
 have hMp:0<(2:Int) ^ (64-k):=Int.pow_pos (by decide);generalize (2:Int) ^ (64-k)=M at hM hMp;generalize (2:Int) ^ k=a at hb hM⊢;have hdm:=Int.mul_ediv_add_emod x a;have hm0:=Int.emod_nonneg x (show a≠0 by omega);have hm1:=Int.emod_lt_of_pos x (show 0<a by omega);have hq0:0≤x / a:=Int.ediv_nonneg x0 (by omega);have hqx:x / a≤x:=Int.ediv_le_self _ x0;have hlast:18446744073709551615 / a=M-1:=by
  rw [show (18446744073709551615:Int)=(a-1)+a*(M-1) from by rw [Int.mul_sub,Int.mul_comm a M,hM];omega,Int.add_mul_ediv_left _ _ (by omega),Int.ediv_eq_zero_of_lt (by omega) (by omega)];omega
 have hqM:x / a<M:=by
  by_cases h:x / a<M
  ·exact h
  ·have:=Int.mul_le_mul_of_nonneg_right (show M≤x / a by omega) (show 0≤a by omega);rw [hM] at this;rw [Int.mul_comm] at hdm;omega
 rw [Int.mul_comm] at hdm;rw [hlast,Int.add_mul,Int.one_mul];have hqa:(x / a+1)*a≤M*a:=Int.mul_le_mul_of_nonneg_right (by omega) (by omega);rw [Int.add_mul,Int.one_mul,hM] at hqa;refine ⟨by have:=Int.mul_nonneg hq0 (show 0≤a by omega);omega,by omega,by omega,hqa,⟨fun e=>?_,fun e=>?_⟩,⟨fun e=>by omega,fun e=>by omega⟩,rfl,hq0,hqx⟩
 ·rw [e,Int.sub_mul,Int.one_mul,hM];omega
 ·have e2:(x / a+1)*a=M*a:=by rw [Int.add_mul,Int.one_mul,hM];exact e
  have:=Int.eq_of_mul_eq_mul_right (show a≠0 by omega) e2;omega
theorem p2_pos {a:Int} (h:IsP2 a):1≤a∧a≤9223372036854775808:=by
 obtain ⟨k,hk,rfl⟩:=h;exact pow2_bd hk
theorem down_ok (x a:Int) (w:World) (x0:0≤x) (x1:x≤18446744073709551615) (h:IsP2 a) :
 Calls Tryz.prog 137 #[.int .u64 x,.int .u64 a] w fun e w'=>e=.returned (.tuple #[.int .u64 (x / a*a),.int .i64 0])∧w=w':=by
 obtain ⟨p0,p1⟩:=p2_pos h;have hzb:(a==0)=false:=by simp;omega
 have hn:(bits .and .u64 a (a-1) != 0)=false:=by simp [and_p2 h]
 have HA:=Lib.hid (andNot_p2 h x0 x1);clear h;go_enter Tryz.func137,Tryz.ntmps137
 go_wp2;go_ret2;exact ⟨ret_num HA.out,rfl⟩
theorem up_same (x a:Int) (w:World) (x0:0≤x) (x1:x≤18446744073709551615) (h:IsP2 a) (hx:x / a*a=x) :
 Calls Tryz.prog 124 #[.int .u64 x,.int .u64 a] w fun e w'=>e=.returned (.tuple #[.int .u64 x,.int .i64 0])∧w=w':=by
 have H:=Lib.hid h;have hb:(x / a*a==x)=true:=by simpa using hx
 have HX:=Lib.hid hx;clear h hx;go_enter Tryz.func124,Tryz.ntmps124
 go_wp2_with (go_at_call 137;refine (down_ok _ _ _ x0 x1 H.out).mono ?_;rintro e w' ⟨rfl,rfl⟩);go_ret2;exact ⟨ret_num HX.out,rfl⟩
theorem up_next (x a:Int) (w:World) (x0:0≤x) (x1:x≤18446744073709551615) (h:IsP2 a) (hx:x / a*a≠x) (ht:x / a*a+a≤18446744073709551615) :
 Calls Tryz.prog 124 #[.int .u64 x,.int .u64 a] w fun e w'=>e=.returned (.tuple #[.int .u64 (x / a*a+a),.int .i64 0])∧w=w':=by
 obtain ⟨p0,p1⟩:=p2_pos h;obtain ⟨m0,m1,_,_,_,_,_,m2,m3⟩:=mult_p2 h x0 x1;have H:=Lib.hid h;have hb:(x / a*a==x)=false:=by simpa using hx
 have hn:(x / a*a+a==0)=false:=by simp;omega
 clear h hx;go_enter Tryz.func124,Tryz.ntmps124
 go_wp2_with (go_at_call 137;refine (down_ok _ _ _ x0 x1 H.out).mono ?_;rintro e w' ⟨rfl,rfl⟩);go_ret2;exact ⟨rfl,rfl⟩
theorem known0:knownB 0=true:=rfl
theorem known1:knownB 1=true:=rfl
theorem k4_ret_i64 {a b:Int} (h:a=b):Ending.returned (.int .i64 a)=.returned (.int .i64 b):=by rw [h]
theorem alone_any (s:Sg) (size:Int) (w:World) (h:s.Ok) (s0:0≤size) (s1:size≤18446744073709551615) :
 Calls Tryz.prog 90 #[s.val,.int .u64 size] w fun e w'=>e=.returned (.int .i64 (aloneS s size))∧Below w.heap.size w w':=by
 obtain ⟨⟨a0,a1⟩,⟨b0,b1⟩,⟨c0,c1⟩,⟨d0,d1⟩,⟨e0,e1⟩,⟨f0,f1⟩,⟨g0,g1⟩⟩:=h;obtain ⟨r,hr⟩:∃r,aloneS s size=r:=⟨_,rfl⟩
 rw [hr];have HR:=Lib.hid hr;clear hr;obtain ⟨ty,fl,ot,va,fi,me,al⟩:=s;simp only at a0 a1 b0 b1 c0 c1 d0 d1 e0 e1 f0 f1 g0 g1;unfold Sg.val;have hbl:∀o,Below w.heap.size w (w.alloc o):=fun o=>(Below.refl _ _).alloc (Nat.le_refl _) o;have K:=Lib.hid (k4_known_any ty);obtain ⟨kb,hk⟩:∃kb,knownB ty=kb:=⟨_,rfl⟩
 rw [hk] at K;go_enter Tryz.func90,Tryz.ntmps90
 go_wp2_with (go_at_call 136;refine (K.out _).mono ?_;rintro e w' ⟨rfl,rfl⟩);all_goals go_ret
 all_goals refine ⟨k4_ret_i64 ?_,hbl _⟩
 all_goals (try simp only [beq_eq_false_iff_ne,beq_iff_eq,bne_iff_ne,bne_eq_false_iff_eq,ne_eq] at *)
 all_goals (rw [←HR.out];simp [aloneS,known0,known1, *]<;>(repeat' split)<;>omega)
theorem p2_256:IsP2 256:=⟨8,by decide,by decide⟩
theorem pages_ok (s:Sg) (w:World) (h:s.Ok) (hv:s.va≤4294967296∧s.me≤4294967296-s.va) :
 Calls Tryz.prog 91 #[s.val] w fun e w'=>e=.returned (.tuple #[.int .u64 (firstS s),.int .u64 (behindS s)])∧Below w.heap.size w w':=by
 obtain ⟨-,-,-,⟨d0,d1⟩,-,⟨f0,f1⟩,-⟩:=h;obtain ⟨v0,v1⟩:=hv;obtain ⟨r,hr⟩:∃r,behindS s=r:=⟨_,rfl⟩
 obtain ⟨ty,fl,ot,va,fi,me,al⟩:=s;simp only at d0 d1 f0 f1 v0 v1;have hsum:IntKind.u64.wrap (va+me)=va+me:=by rw [IntKind.wrap_u64];omega
 have RD:Hid (∀w1,Calls Tryz.prog 137 #[.int .u64 va,.int .u64 256] w1 fun e w'=>e=.returned (.tuple #[.int .u64 (va / 256*256),.int .i64 0])∧w1=w'):=Lib.hid (fun w1=>down_ok va 256 w1 d0 d1 p2_256);have RU:Hid (∀w1,Calls Tryz.prog 124 #[.int .u64 (va+me),.int .u64 256] w1 fun e w'=>e=.returned (.tuple #[.int .u64 r,.int .i64 0])∧w1=w'):=Lib.hid (fun w1=>by
  simp only [behindS] at hr;by_cases hx:(va+me) / 256*256=va+me
  ·have:r=va+me:=by omega
   subst this;rw [←hr];have:=up_same (va+me) 256 w1 (by omega) (by omega) p2_256 hx;rw [show (va+me+255) / 256*256=va+me by omega];exact this
  ·have:=up_next (va+me) 256 w1 (by omega) (by omega) p2_256 hx (by omega);rw [←hr,show (va+me+255) / 256*256=(va+me) / 256*256+256 by omega];exact this)
 have hbl:∀o,Below w.heap.size w (w.alloc o):=fun o=>(Below.refl _ _).alloc (Nat.le_refl _) o;rw [hr];simp only [firstS];unfold Sg.val;clear hr;go_enter Tryz.func91,Tryz.ntmps91
 go_wp2_with (first | (go_at_call 137;refine (RD.out _).mono ?_;rintro e w' ⟨rfl,rfl⟩) | (go_at_call 124;refine (RU.out _).mono ?_;rintro e w' ⟨rfl,rfl⟩));go_ret2;exact ⟨rfl,hbl _⟩
end Go.Proofs.YtclgbdfkdbbinaaGreat
