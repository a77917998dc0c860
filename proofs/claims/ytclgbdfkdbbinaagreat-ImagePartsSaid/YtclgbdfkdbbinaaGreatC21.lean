/-
  What is proved here: words and contracts, a part of those that the statement rests on (C21).
  Conditions: none but that the arguments are values of their types.
-/
import Derived.Test.YtclgbdfkdbbinaaGreatC20
import Derived.Test.YtclgbdfkdbbinaaGreatC18
import Derived.Test.YtclgbdfkdbbinaaGreatC4
import Derived.Test.YtclgbdfkdbbinaaGreatC1
import Derived.Test.YtclgbdfkdbbinaaGreatC11
import Derived.BigQuiet
import Derived.Deep.QuietTactic
set_option linter.unusedVariables false
set_option linter.unusedSimpArgs false
set_option maxRecDepth 100000
set_option maxHeartbeats 12800000
namespace Go.Proofs.YtclgbdfkdbbinaaGreat
open Go.RowKit
def nmI (m:Pm):Int×Pm:=if (namesI m.t m.m.sy).1≠0 then ((namesI m.t m.m.sy).1,m) else (0,{ m with m:={ m.m with nm:=(namesI m.t m.m.sy).2 } })
theorem nm9_ok (g:Nat):StepAt g 55 (fun m=>m.m.nm=[]) nmI:=by
 intro p m w hpre h;have H:=Lib.hid h;have hgl:=h.lt;obtain ⟨i0,hi,hz0,hz1,hz2⟩:=info_parts info_str;have HI:=Lib.hid hi;have HI0:=Lib.hid hz0;have HI1:=Lib.hid hz1;have HI2:=Lib.hid hz2;clear hi hz0 hz1 hz2;have hzd:=h.row.zn hpre;have hl:=h.row.ly;have HTB:Hid (∀w1,Kp g w w1→Bys w1 w1.heap.size p.tb.a p.tb.n m.t∧p.tb.n≤p.tb.c∧(p.tb.c:Int)≤9223372036854775807):=Lib.hid (fun w1 h1=>by
  have ho:=own_kp h1 h.row.t (Nat.lt_succ_self _);obtain ⟨n0,l0,c0⟩:=own_n ho;rw [←n0] at ho;exact ⟨Bys.own h.row.okt ho,l0,c0⟩)
 have HLN:Hid (∀w1,Kp g w w1→Sy.Sl w1 w1.heap.size p.x.sy.a p.x.sy.n m.m.sy):=Lib.hid (fun w1 h1=>by
  have ho:=own_kp h1 h.row.sy (Nat.lt_succ_self _);obtain ⟨n0,l0,c0⟩:=own_n ho;rw [←n0] at ho;exact Sy.Sl.own h.row.oky ho)
 obtain ⟨p,hp⟩:∃q:Pz,q=p:=⟨_,rfl⟩
 obtain ⟨⟨k,e,s,c,⟨sga,sgn,sgc⟩,so,⟨nda,ndn,ndc⟩,⟨nma,nmn,nmc⟩,⟨sya,syn,syc⟩,⟨rla,rln,rlc⟩,⟨zsa,zsn,zsc⟩⟩,⟨fia,fin,fic⟩,⟨n0,n1,n2⟩,v0,v1,v2,v3,v4,v5,v6,⟨tba,tbn,tbc⟩⟩:=p;subst hp;simp only at hzd HTB HLN;unfold Sh.zero at hzd;injection hzd with e1 e2 e3;subst e1 e2 e3;have HBX:Hid (Blk w g #[.int .i64 k,.int .u64 e,.int .u64 s,.int .i64 c,.slice sga sgn sgc,.string so,.slice nda ndn ndc,.slice none 0 0,.slice sya syn syc,.slice rla rln rlc,.slice zsa zsn zsc,.slice fia fin fic,.slice n0 n1 n2,.int .u64 v0,.int .u64 v1,.int .u64 v2,.int .u64 v3,.int .u64 v4,.int .u64 v5,.int .u64 v6,.slice tba tbn tbc] 72):=Lib.hid h.box;have HEND:Hid (∀(w3:World) (xa:Option Addr) (xc:Nat) (L:List ByteArray),Kq g w w3→Blk w3 g #[.int .i64 k,.int .u64 e,.int .u64 s,.int .i64 c,.slice sga sgn sgc,.string so,.slice nda ndn ndc,.slice xa L.length xc,.slice sya syn syc,.slice rla rln rlc,.slice zsa zsn zsc,.slice fia fin fic,.slice n0 n1 n2,.int .u64 v0,.int .u64 v1,.int .u64 v2,.int .u64 v3,.int .u64 v4,.int .u64 v5,.int .u64 v6,.slice tba tbn tbc] 72→w3.ownsRow w.heap.size 9 1 (.slice xa L.length xc) L.length (L.map Value.string)→(L=[]→xa=none∧xc=0)→Ps9 g w3 ⟨⟨k,e,s,c,⟨sga,sgn,sgc⟩,so,⟨nda,ndn,ndc⟩,⟨xa,L.length,xc⟩,⟨sya,syn,syc⟩,⟨rla,rln,rlc⟩,⟨zsa,zsn,zsc⟩⟩,⟨fia,fin,fic⟩,⟨n0,n1,n2⟩,v0,v1,v2,v3,v4,v5,v6,⟨tba,tbn,tbc⟩⟩ { m with m:={ m.m with nm:=L } }):=Lib.hid (fun w3 xa xc L hk hb ho hnil=>
  H.out.next hk hb { H.out.row.kp hk.kp (Nat.lt_succ_self _) with nm:=own_base9 ho hgl,zn:=fun e=>by obtain ⟨e1,e2⟩:=hnil e;have e:L=[]:=e;subst e;subst e1;subst e2;rfl } rfl rfl)
 obtain ⟨Z,hZ⟩:∃Z,nmI m=Z:=⟨_,rfl⟩
 have HZ:Hid (Z=if (namesI m.t m.m.sy).1≠0 then ((namesI m.t m.m.sy).1,m) else (0,{ m with m:={ m.m with nm:=(namesI m.t m.m.sy).2 } })):=Lib.hid (by rw [←hZ];rfl);rw [hZ];clear hZ h hpre;go_enter Tryz.func55,Tryz.ntmps55
 have q0:w.cell? ⟨g,8,none⟩=some (.slice sya syn syc):=HBX.out.cell 8;have hln:m.m.sy.length=syn:=(HLN.out w (Kp.refl _ _)).hl;have HNL:=Lib.hid hln;rw [hln] at hl;have hli:(syn:Int)≤65537:=by omega
 clear hln;go_wp2;go_loopw [4,5,6,13] (fun _ _ _ i wr=>∃(q:Nat) (xa:Option Addr) (xc:Nat) (L:List ByteArray),q≤syn∧i=.int .i64 q∧L.length=q∧NamesUp m.t m.m.sy q L∧Kq g w wr∧Blk wr g #[.int .i64 k,.int .u64 e,.int .u64 s,.int .i64 c,.slice sga sgn sgc,.string so,.slice nda ndn ndc,.slice xa L.length xc,.slice sya syn syc,.slice rla rln rlc,.slice zsa zsn zsc,.slice fia fin fic,.slice n0 n1 n2,.int .u64 v0,.int .u64 v1,.int .u64 v2,.int .u64 v3,.int .u64 v4,.int .u64 v5,.int .u64 v6,.slice tba tbn tbc] 72∧wr.ownsRow w.heap.size 9 1 (.slice xa L.length xc) L.length (L.map Value.string)∧(L=[]→xa=none∧xc=0)) (fun _ _ _ i _=>syn-(intOf i).toNat)
 case atStart=>exact ⟨0,none,0,[],Nat.zero_le _,rfl,rfl,NamesUp.zero _ _,Kq.refl _ _,HBX.out,World.ownsRow_nil _ _ _ _,fun _=>⟨rfl,rfl⟩⟩
 case round=>
  obtain ⟨q,xa,xc,L,hq,rfl,hL,hup,hkq,hbx,hown,hnil⟩:=hrel;subst hL;obtain ⟨q,hqL⟩:∃q,L.length=q:=⟨_,rfl⟩
  rw [hqL] at hq hup hbx hown⊢;have HLQ:=Lib.hid hqL;have HUP:=Lib.hid hup;have HKQ:=Lib.hid hkq;have HBW:=Lib.hid hbx;have HOW:=Lib.hid hown;have HNI:=Lib.hid hnil;obtain ⟨htb,htc1,htc2⟩:=HTB.out wr hkq.kp;have HTW:=Lib.hid htb;have HLW:=Lib.hid (HLN.out wr hkq.kp);have x20:wr.cell? ⟨g,20,none⟩=some (.slice tba tbn tbc):=hbx.cell 20;have xcl:wr.cell? ⟨g,7,none⟩=some (.slice xa q xc):=hbx.cell 7;have hgw:=hbx.lt;have hww:w.heap.size≤wr.heap.size:=hkq.bel.size;clear hup hkq hbx hown htb hnil hqL;by_cases hlt:q<syn
  ·have hlti:(q:Int)<syn:=by omega
   have HUE:=Lib.hid (fun h=>HUP.out.err (by rw [HNL.out];exact hlt) h);have HUS:=Lib.hid (fun h=>HUP.out.succ (by rw [HNL.out];exact hlt) h);obtain ⟨sb,soff,hsa,hsB,hsc⟩:=HLW.out.hc (by omega);subst hsa;obtain ⟨n3,n4,n5,n6,n7,n8⟩:=hsc q hlt;have hp:=(HLW.out.okAt hlt).na;generalize m.m.sy.getD q Sy.zero=yy at n3 n4 n5 n6 n7 n8 hp HUE HUS;obtain ⟨yna,yif,yot,yse,yva,ysi⟩:=yy;simp only at n3 n4 n5 n6 n7 n8 hp HUE HUS;obtain ⟨hp0,hp1⟩:=hp;have HAT:=Lib.hid (fun k=>atN9_any _ tba tbn tbc m.t yna ((wr.alloc (.cells #[.int .u32 yna,.int .u8 yif,.int .u8 yot,.int .u16 yse,.int .u64 yva,.int .u64 ysi] 76)).drewN k) (HTW.out.below (below_drewN ((Below.refl _ _).alloc (Nat.le_refl _) _) k)) htc1 htc2 hp0);generalize atN m.t yna=A at HAT HUE HUS;obtain ⟨ae,an⟩:=A;simp only at HUE HUS;have HW1:IntKind.u64.wrap yna=yna:=by rw [IntKind.wrap_u64];omega
   have hsw:sb<wr.heap.size:=hsB;have hgn:¬g=wr.heap.size:=by omega
   obtain ⟨wy,hwy⟩:∃wy,wy=wr.alloc (.cells #[.int .u32 yna,.int .u8 yif,.int .u8 yot,.int .u16 yse,.int .u64 yva,.int .u64 ysi] 76):=⟨_,rfl⟩
   have HKY:Hid (∀k,Kq g w ((wr.alloc (.cells #[.int .u32 yna,.int .u8 yif,.int .u8 yot,.int .u16 yse,.int .u64 yva,.int .u64 ysi] 76)).drewN k)):=Lib.hid (fun k=>(HKQ.out.alloc (Nat.le_of_lt hgw) _).trans (Kq.later (by simp;omega) (below_drewN (Below.refl _ _) k)));have HBY:Hid (∀kk,Blk ((wr.alloc (.cells #[.int .u32 yna,.int .u8 yif,.int .u8 yot,.int .u16 yse,.int .u64 yva,.int .u64 ysi] 76)).drewN kk) g #[.int .i64 k,.int .u64 e,.int .u64 s,.int .i64 c,.slice sga sgn sgc,.string so,.slice nda ndn ndc,.slice xa q xc,.slice (some ⟨sb,soff,none⟩) syn syc,.slice rla rln rlc,.slice zsa zsn zsc,.slice fia fin fic,.slice n0 n1 n2,.int .u64 v0,.int .u64 v1,.int .u64 v2,.int .u64 v3,.int .u64 v4,.int .u64 v5,.int .u64 v6,.slice tba tbn tbc] 72):=Lib.hid (fun kk=>below_drewN_blk (HBW.out.alloc _) kk);have HOY:Hid (∀k,((wr.alloc (.cells #[.int .u32 yna,.int .u8 yif,.int .u8 yot,.int .u16 yse,.int .u64 yva,.int .u64 ysi] 76)).drewN k).ownsRow w.heap.size 9 1 (.slice xa q xc) q (L.map Value.string)):=Lib.hid (fun k=>own_drewN (HOW.out.alloc _) k);have HBZ:=Lib.hid (show True∧True from ⟨trivial,trivial⟩);clear hsc hwy;go_wp2;go_quiet (first | (go_at_call 102;refine Calls.quiet_of_same ((HAT.out _).mono fun _ _ h=>⟨h.1,h.2.symm⟩)))
   by_cases hae:ae=0
   ·subst hae
    ·have HU1:=Lib.hid (HUS.out (by first | rfl | trivial));obtain ⟨y1,y2⟩:=HBZ.out;clear HUE HUS;go_wp2_with (at_builtin;refine wpList_append_own _ rfl _ _ 28 rfl w.heap.size 9 i0 (.string .empty) 1 16 Tryz.underlying28 HI.out HI0.out HI1.out HI2.out rfl (by decide) _ q _ rfl ((HOY.out nq).alloc _) ⟨wr.heap.size+1,0,none⟩ 1 1 [.string an] rfl rfl ?c1 ?c2 ?c3 ?c4 ?c5 ?_);case c1=>first | exact cell_one_new _ _ _ | (simpa using cell_one_new (World.drewN (wr.alloc (.cells #[.int .u32 yna,.int .u8 yif,.int .u8 yot,.int .u16 yse,.int .u64 yva,.int .u64 ysi] 76)) _) _ _)
     case c2=>intro u hu;obtain rfl:=List.mem_singleton.1 hu;rfl
     case c3=>unfold maxLen;omega
     case c4=>omega
     case c5=>simp;omega
     intro v4 w4 hown4 hg4 hnil4;obtain ⟨⟨na4,nn4,nc4⟩,hok4,hn4,rfl⟩:=own_sh hown4;simp only at hn4;subst hn4;have hlo:∀z,Value.ownBlock (.slice xa q xc)=some z→w.heap.size≤z:=fun z e=>(HOW.out.lt z e).1;have hgn9:∀z,Value.ownBlock (.slice xa q xc)=some z→g≠z:=fun z e=>by have:=hlo z e;omega
     have hbx4:=((HBY.out nq).alloc (.cells #[.string an] 9)).grown hg4 (fun e=>hgn9 _ e.symm rfl);have hal:=Kq.alloc (HKY.out nq) (by first | exact Nat.le_of_lt hgw | (simp;omega)) (.cells #[.string an] 9);have hkq4:Kq g w w4:=⟨hal.bel.grown hg4 (by have:=hal.bel.size;omega) (fun z e=>by have:=hlo z e;omega),hal.kp.grown hg4 hlo⟩
     have c7:w4.cell? ⟨g,7,none⟩=some (.slice xa q xc):=hbx4.cell 7;have f7:=hbx4.frozen 7;have hg9:=hbx4.lt;have HBX4:=Lib.hid (hbx4.set 7 (.slice na4 (q+1) nc4));have HKQ4:=Lib.hid (hkq4.set 7 (.slice na4 (q+1) nc4));have HO4:Hid (w4.ownsRow w.heap.size 9 1 (.slice na4 (q+1) nc4) (q+1) ((L++[an]).map Value.string)):=Lib.hid (by rw [List.map_append];exact hown4);have HO5:=Lib.hid (ownsRow_setCell_below HO4.out (a:=⟨g,7,none⟩) (by show g<w.heap.size;exact hgl) (.slice na4 (q+1) nc4));have HLL:Hid ((L++[an]).length=q+1):=Lib.hid (by rw [List.length_append,HLQ.out];rfl);clear hown4 hg4 hbx4 hkq4 hal hlo hgn9 hnil4;go_wp2;go_roundw
     case rel=>exact ⟨q+1,na4,nc4,L++[an],by omega,by go_num,HLL.out,HU1.out,HKQ4.out,by rw [HLL.out];exact HBX4.out,by rw [HLL.out];exact HO5.out,fun e=>by simp at e⟩
     case measure=>(simp [intOf]<;>omega)
   ·have haeb:(ae != 0)=true:=by rw [bne_iff_ne];exact hae
    have hz:=HZ.out;rw [HUE.out hae,if_pos hae] at hz;subst hz;clear HUE HUS;go_wp2;go_ret;exact ⟨rfl,fun e=>absurd e hae,(HKY.out nq)⟩
  ·obtain rfl:q=syn:=by omega
   obtain ⟨he,hL⟩:=HUP.out.all (by rw [HNL.out];exact Nat.le_refl _);have hz:=HZ.out;rw [he,hL,if_neg (by decide)] at hz;subst hz;clear he hL;go_wp2;go_ret;exact ⟨rfl,fun _=>⟨_,HEND.out _ _ _ L HKQ.out (by rw [HLQ.out];exact HBW.out) (by rw [HLQ.out];exact HOW.out) HNI.out⟩,HKQ.out⟩
theorem k6_piece_piece {zs:List Int} {p n q k:Nat} (h:q+k≤n):piece (piece zs p n) q k=piece zs (p+q) k:=by
 unfold piece;rw [List.drop_take,List.take_take,List.drop_drop,Nat.min_eq_left (by omega)]
theorem num_one {zs:List Int} {p:Nat} (h:p<zs.length):num (piece zs p 1)=zs.getD p 0:=by
 rw [num_piece_succ (k:=0) (by omega)];simp [piece_zero,num]
theorem symAt_piece {zs:List Int} {k:Nat} (h:24*k+24≤zs.length):symAt zs k =
 ⟨num (piece (piece zs (24*k) 24) 0 4),num (piece (piece zs (24*k) 24) 4 1),num (piece (piece zs (24*k) 24) 5 1),num (piece (piece zs (24*k) 24) 6 2),num (piece (piece zs (24*k) 24) 8 8),num (piece (piece zs (24*k) 24) 16 8)⟩:=by
 rw [k6_piece_piece (by omega),k6_piece_piece (by omega),k6_piece_piece (by omega),k6_piece_piece (by omega),k6_piece_piece (by omega),k6_piece_piece (by omega),num_one (by omega),num_one (by omega)];rfl
theorem k6_read_ok (B:Nat) (a:Option Addr) (len cap:Nat) (zs:List Int) (p n:Nat) (w:World) (hb:Bys w B a len zs) (h:n=1∨n=2∨n=4∨n=8) (hl:(len:Int)≤9223372036854775807) (hs:p+n≤len) :
 Calls Tryz.prog 160 #[.slice a len cap,.int .u64 p,.int .i64 n] w fun e w'=>e=.returned (.int .u64 (num (piece zs p n)))∧w=w':=by
 have HB:=Lib.hid hb;have Hn:=Lib.hid h;clear hb h;go_enter Tryz.func160,Tryz.ntmps160
 go_wp2_with (go_at_call 131;refine (get_ok _ _ _ _ _ _ _ _ HB.out Hn.out hl hs).mono ?_;rintro e w' ⟨rfl,rfl⟩);go_ret;exact ⟨rfl,rfl⟩
theorem k6_entry_ok (B:Nat) (a:Option Addr) (cap k:Nat) (zs:List Int) (w:World) (hb:Bys w B a 24 (piece zs (24*k) 24)) (hB:B≤w.heap.size) (hz:∀n∈zs,0≤n∧n≤255) (hk:24*k+24≤zs.length) :
 Calls Tryz.prog 143 #[.slice a 24 cap] w fun r w'=>r=.returned (symAt zs k).val∧Below w.heap.size w w':=by
 have hok:=symAt_ok hz hk;rw [symAt_piece hk] at hok⊢;generalize piece zs (24*k) 24=C at *;have hR:∀w1,Below w.heap.size w w1→Bys w1 B a 24 C:=fun w1 h1=>hb.below (h1.mono hB);have R0:Hid (∀w1,Below w.heap.size w w1→Calls Tryz.prog 160 #[.slice a 24 cap,.int .u64 0,.int .i64 4] w1 fun e w'=>e=.returned (.int .u64 (num (piece C 0 4)))∧w1=w'):=Lib.hid (fun w1 h1=>k6_read_ok B a 24 cap C 0 4 w1 (hR w1 h1) (by decide) (by omega) (by omega));have R1:Hid (∀w1,Below w.heap.size w w1→Calls Tryz.prog 160 #[.slice a 24 cap,.int .u64 4,.int .i64 1] w1 fun e w'=>e=.returned (.int .u64 (num (piece C 4 1)))∧w1=w'):=Lib.hid (fun w1 h1=>k6_read_ok B a 24 cap C 4 1 w1 (hR w1 h1) (by decide) (by omega) (by omega));have R2:Hid (∀w1,Below w.heap.size w w1→Calls Tryz.prog 160 #[.slice a 24 cap,.int .u64 5,.int .i64 1] w1 fun e w'=>e=.returned (.int .u64 (num (piece C 5 1)))∧w1=w'):=Lib.hid (fun w1 h1=>k6_read_ok B a 24 cap C 5 1 w1 (hR w1 h1) (by decide) (by omega) (by omega));have R3:Hid (∀w1,Below w.heap.size w w1→Calls Tryz.prog 160 #[.slice a 24 cap,.int .u64 6,.int .i64 2] w1 fun e w'=>e=.returned (.int .u64 (num (piece C 6 2)))∧w1=w'):=Lib.hid (fun w1 h1=>k6_read_ok B a 24 cap C 6 2 w1 (hR w1 h1) (by decide) (by omega) (by omega));have R4:Hid (∀w1,Below w.heap.size w w1→Calls Tryz.prog 160 #[.slice a 24 cap,.int .u64 8,.int .i64 8] w1 fun e w'=>e=.returned (.int .u64 (num (piece C 8 8)))∧w1=w'):=Lib.hid (fun w1 h1=>k6_read_ok B a 24 cap C 8 8 w1 (hR w1 h1) (by decide) (by omega) (by omega));have R5:Hid (∀w1,Below w.heap.size w w1→Calls Tryz.prog 160 #[.slice a 24 cap,.int .u64 16,.int .i64 8] w1 fun e w'=>e=.returned (.int .u64 (num (piece C 16 8)))∧w1=w'):=Lib.hid (fun w1 h1=>k6_read_ok B a 24 cap C 16 8 w1 (hR w1 h1) (by decide) (by omega) (by omega));obtain ⟨⟨a0,a1⟩,⟨b0,b1⟩,⟨c0,c1⟩,⟨d0,d1⟩,⟨e0,e1⟩,⟨f0,f1⟩⟩:=hok;simp only at a0 a1 b0 b1 c0 c1 d0 d1 e0 e1 f0 f1;generalize num (piece C 0 4)=na at *;generalize num (piece C 4 1)=inf at *;generalize num (piece C 5 1)=ot at *;generalize num (piece C 6 2)=se at *;generalize num (piece C 8 8)=va at *;generalize num (piece C 16 8)=si at *;have HBL:Hid (∀o,Below w.heap.size w (w.alloc o)):=Lib.hid (fun o=>(Below.refl _ _).alloc (Nat.le_refl _) o);clear hb hR;unfold Sy.val;simp only
 go_enter Tryz.func143,Tryz.ntmps143
 go_wp2_with (first | (go_at_call 160;with_reducible refine (R0.out _ (HBL.out _)).mono ?_;rintro r w' ⟨rfl,rfl⟩) | (go_at_call 160;with_reducible refine (R1.out _ (HBL.out _)).mono ?_;rintro r w' ⟨rfl,rfl⟩) | (go_at_call 160;with_reducible refine (R2.out _ (HBL.out _)).mono ?_;rintro r w' ⟨rfl,rfl⟩) | (go_at_call 160;with_reducible refine (R3.out _ (HBL.out _)).mono ?_;rintro r w' ⟨rfl,rfl⟩) | (go_at_call 160;with_reducible refine (R4.out _ (HBL.out _)).mono ?_;rintro r w' ⟨rfl,rfl⟩) | (go_at_call 160;with_reducible refine (R5.out _ (HBL.out _)).mono ?_;rintro r w' ⟨rfl,rfl⟩));refine bodyPost_ret (v:=.agg #[.int .u32 na,.int .u8 inf,.int .u8 ot,.int .u16 se,.int .u64 va,.int .u64 si]) (by simp [results,Tryz.results143,go_sem]) rfl ⟨rfl,?_⟩;exact HBL.out _
theorem k6_stable_any (B:Nat) (a:Option Addr) (len cap:Nat) (zs:List Int) (w:World) (hb:Bys w B a len zs) (hB:B≤w.heap.size) (hl:len≤140737488355328) (hcap:len≤cap) (hcm:(cap:Int)≤9223372036854775807) :
 Calls Tryz.prog 103 #[.slice a len cap] w fun r w'=>(∃u,r=.returned (.tuple #[u,.int .i64 (tabY zs).1])∧w'.ownsRow w.heap.size 76 6 u (tabY zs).2.length (Sy.flat (tabY zs).2))∧Below w.heap.size w w':=by
 obtain ⟨i0,hi,hz0,hz1,hz2⟩:=info_parts info_sym;have HI:=Lib.hid hi;have HZ0:=Lib.hid hz0;have HZ1:=Lib.hid hz1;have HZ2:=Lib.hid hz2;have HZB:=Lib.hid hb.2.1;have HZL:=Lib.hid hb.1;have HBY:=Lib.hid hb;have hli:(len:Int)≤140737488355328:=by omega
 clear hi hz0 hz1 hz2;by_cases hm:len % 24=0
 ·have HR:Hid (tabY zs=(0,k6_tabS zs (len / 24))):=Lib.hid (by unfold tabY;rw [HZL.out,if_pos hm]);rw [HR.out];have hmi:(len:Int) % 24=0:=by omega
  have HTL:=Lib.hid (k6_tabS_len zs (len / 24));obtain ⟨n,hn⟩:∃n,len / 24=n:=⟨_,rfl⟩
  have hni:(len:Int) / 24=(n:Int):=by omega
  rw [hn] at HTL HR⊢;have hln1:len≤24*n:=by omega
  have hln2:24*n≤len:=by omega
  clear hb hn hm;go_enter Tryz.func103,Tryz.ntmps103
  go_wp2_with (at_make;refine wpList_make_own _ rfl _ _ 29 rfl w.heap.size 76 i0 _ 6 Tryz.underlying29 HI.out HZ0.out HZ1.out .i64 .i64 _ n rfl rfl rfl ?c1 ?c2 ?c3 ?_);case c1=>rw [HZ2.out];omega
  case c2=>unfold maxLen;omega
  case c3=>exact Nat.le_refl _
  intro w1 hown1 hg1;have hbw1:Below w.heap.size w w1:=(Below.refl _ _).grown hg1 (Nat.le_refl _) (fun _ e=>by cases e);have HO1:=Lib.hid hown1;have HB1:=Lib.hid hbw1;clear hown1 hg1 hbw1;go_wp2;go_loopw [4,5,6] (fun v i _ wr=>∃k:Nat,k≤n∧i=.int .i64 (24*(k:Int))∧wr.ownsRow w.heap.size 76 6 v k (Sy.flat (k6_tabS zs k))∧Below w.heap.size w wr) (fun _ i _ _=>24*n-(intOf i).toNat)
  case atStart=>exact ⟨0,Nat.zero_le _,rfl,HO1.out,HB1.out⟩
  case round=>
   obtain ⟨k,hk,rfl,hown,hbel⟩:=hrel;by_cases hlt:k<n
   ·have hki:24*(k:Int)<24*n:=by omega
    have hkl:24*(k:Int)<len:=by omega
    have hkl2:24*(k:Int)+24≤len:=by omega
    have HBYW:=Lib.hid (HBY.out.below (hbel.mono hB));obtain ⟨b,off,rfl,hbB,hcell⟩:=HBYW.out.2.2 (by omega);have hsub:=HBYW.out.sub (p:=24*k) (n:=24) (by omega);have HE:=Lib.hid (fun cap'=>k6_entry_ok B (some ⟨b,off+24*k,none⟩) cap' k zs wr hsub (Nat.le_trans hB hbel.size) HZB.out (by rw [HZL.out];omega));have HTS:=Lib.hid (k6_tabS_succ zs k);have hok:=symAt_ok (zs:=zs) (k:=k) HZB.out (by rw [HZL.out];omega);generalize symAt zs k=s at HE HTS hok;have HOC:=Lib.hid (k6_one_cells s);obtain ⟨na,inf,ot,se,va,si⟩:=s;unfold Sy.val at HE;simp only at HE HOC;have HOW:=Lib.hid hown;have HBE:=Lib.hid hbel;have hbs:=hbel.size;clear hown hbel hsub hcell hok;have hn1:(24*(k:Int)).toNat=24*k:=by omega
    have hn2:(24*(k:Int)+24).toNat=24*k+24:=by omega
    go_wp2_with fail;refine (HE.out _).mono ?_;rintro r w3 ⟨rfl,hb3⟩;have HO3:=Lib.hid (Sy.own_below HOW.out hb3);have HB3:=Lib.hid (HBE.out.trans (hb3.mono hbs));clear hb3;go_wp2_with (at_builtin;refine wpList_append_own _ rfl _ _ 29 rfl w.heap.size 76 i0 _ 6 24 Tryz.underlying29 HI.out HZ0.out HZ1.out HZ2.out rfl (by decide) _ k _ rfl (HO3.out.alloc _) _ 1 1 [.int .u32 na,.int .u8 inf,.int .u8 ot,.int .u16 se,.int .u64 va,.int .u64 si] rfl rfl ?d1 ?d2 ?d3 ?d4 ?d5 ?_);case d1=>exact k6_cells_new w3 [.int .u32 na,.int .u8 inf,.int .u8 ot,.int .u16 se,.int .u64 va,.int .u64 si] _ _ rfl
    case d2=>exact HOC.out
    case d3=>unfold maxLen;omega
    case d4=>omega
    case d5=>have:=HB3.out.size;simp;omega
    intro v4 w4 hown4 hg4 _;have HO4:Hid (w4.ownsRow w.heap.size 76 6 v4 (k+1) (Sy.flat (k6_tabS zs (k+1)))):=Lib.hid (by rw [HTS.out,Sy.flat_snoc];exact hown4);have hb4:Below w.heap.size w w4:=(HB3.out.alloc HB3.out.size _).grown hg4 (by have:=HB3.out.size;simp;omega) (fun q e=>(HO3.out.lt q e).1);clear hown4 hg4;go_wp2;go_roundw
    case rel=>exact ⟨k+1,by omega,by go_num,HO4.out,hb4⟩
    case measure=>(simp [intOf]<;>omega)
   ·obtain rfl:k=n:=by omega
    have hkl:¬24*(k:Int)<len:=by omega
    have HOW:=Lib.hid hown;have HBE:=Lib.hid hbel;clear hown hbel;go_wp2;go_ret2;exact ⟨⟨_,rfl,by rw [HTL.out];exact HOW.out⟩,HBE.out⟩
 ·have HR:Hid (tabY zs=(10,[])):=Lib.hid (by unfold tabY;rw [HZL.out,if_neg hm]);rw [HR.out];have hmb:((len:Int) % 24 != 0)=true:=by
   rw [bne_iff_ne];omega
  clear hb hm;go_enter Tryz.func103,Tryz.ntmps103
  go_wp2;go_ret2;exact ⟨⟨_,rfl,World.ownsRow_nil _ _ _ _⟩,Below.refl _ _⟩
theorem bind_eq (na inf ot se va si:Int) (w:World) (b0:0≤inf) (b1:inf≤255) :
 Calls Tryz.prog 161 #[.agg #[.int .u32 na,.int .u8 inf,.int .u8 ot,.int .u16 se,.int .u64 va,.int .u64 si]] w fun r w'=>r=.returned (.int .i64 (inf / 16))∧w'=w.alloc (.cells #[.int .u32 na,.int .u8 inf,.int .u8 ot,.int .u16 se,.int .u64 va,.int .u64 si] 76):=by
 go_enter Tryz.func161,Tryz.ntmps161
 go_wp2;go_ret;exact ⟨rfl,rfl⟩
theorem kind_eq (na inf ot se va si:Int) (w:World) (b0:0≤inf) (b1:inf≤255) :
 Calls Tryz.prog 59 #[.agg #[.int .u32 na,.int .u8 inf,.int .u8 ot,.int .u16 se,.int .u64 va,.int .u64 si]] w fun r w'=>r=.returned (.int .i64 (inf % 16))∧w'=w.alloc (.cells #[.int .u32 na,.int .u8 inf,.int .u8 ot,.int .u16 se,.int .u64 va,.int .u64 si] 76):=by
 go_enter Tryz.func59,Tryz.ntmps59
 go_wp2;go_ret;exact ⟨rfl,rfl⟩
theorem defined_eq (na inf ot se va si:Int) (w:World)  :
 Calls Tryz.prog 58 #[.agg #[.int .u32 na,.int .u8 inf,.int .u8 ot,.int .u16 se,.int .u64 va,.int .u64 si]] w fun r w'=>r=.returned (.bool (se != 0))∧w'=w.alloc (.cells #[.int .u32 na,.int .u8 inf,.int .u8 ot,.int .u16 se,.int .u64 va,.int .u64 si] 76):=by
 go_enter Tryz.func58,Tryz.ntmps58
 go_wp2;go_ret;exact ⟨rfl,rfl⟩
def knownY (k:Int):Bool:=decide (k=0∨k=1∨k=2∨k=6)
theorem k6_known_any (k:Int) (w:World):Calls Tryz.prog 162 #[.int .i64 k] w fun r w'=>r=.returned (.bool (knownY k))∧w=w':=by
 obtain ⟨b,hb⟩:∃b,knownY k=b:=⟨_,rfl⟩
 rw [hb];have HB:=Lib.hid hb;clear hb;go_enter Tryz.func162,Tryz.ntmps162
 go_wp2;all_goals (try simp only [beq_eq_false_iff_ne,beq_iff_eq,bne_iff_ne,bne_eq_false_iff_eq,ne_eq] at *)
 all_goals go_ret
 all_goals refine ⟨ret_bool ?_,rfl⟩
 all_goals rw [←HB.out]
 all_goals unfold knownY
 all_goals first | (symm;rw [decide_eq_true_eq];omega) | (symm;rw [decide_eq_false_iff_not];omega)
theorem k6_valid_any (s:Sy) (w:World) (h:s.Ok):Calls Tryz.prog 144 #[s.val] w fun r w'=>r=.returned (.bool (!badY 1 s))∧Below w.heap.size w w':=by
 obtain ⟨r,hr⟩:∃r,(!badY 1 s)=r:=⟨_,rfl⟩
 rw [hr];have HR:=Lib.hid hr;have HKN:=Lib.hid (fun w1=>k6_known_any (s.inf % 16) w1);have HKB:Hid (knownY (s.inf % 16)=decide (s.inf % 16=0∨s.inf % 16=1∨s.inf % 16=2∨s.inf % 16=6)):=Lib.hid rfl;generalize knownY (s.inf % 16)=kn at HKN HKB;clear hr;obtain ⟨⟨a0,a1⟩,⟨b0,b1⟩,⟨c0,c1⟩,⟨d0,d1⟩,⟨e0,e1⟩,⟨f0,f1⟩⟩:=h;obtain ⟨na,inf,ot,se,va,si⟩:=s;unfold Sy.val;simp only at *;have HBE:Hid (∀o,Below w.heap.size w (w.alloc o)):=Lib.hid (fun o=>(Below.refl _ _).alloc (Nat.le_refl _) o);have HKB2:Hid ((inf % 16=0∨inf % 16=1∨inf % 16=2∨inf % 16=6)↔kn=true):=Lib.hid (by rw [HKB.out,decide_eq_true_eq]);clear HKB;cases kn
 all_goals go_enter Tryz.func144,Tryz.ntmps144
 all_goals go_wp2_with (first | (go_at_call 161;refine (bind_eq _ _ _ _ _ _ _ b0 b1).mono ?_;rintro e w' ⟨rfl,rfl⟩) | (go_at_call 59;refine (kind_eq _ _ _ _ _ _ _ b0 b1).mono ?_;rintro e w' ⟨rfl,rfl⟩) | (go_at_call 162;refine (HKN.out _).mono ?_;rintro e w' ⟨rfl,rfl⟩) | (go_at_call 58;refine (defined_eq _ _ _ _ _ _ _).mono ?_;rintro e w' ⟨rfl,rfl⟩))
 all_goals go_ret
 all_goals refine ⟨ret_bool ?_,?_⟩
 all_goals first
  | exact (Below.refl _ _).alloc (Nat.le_refl _) _
  | exact ((Below.refl _ _).alloc (Nat.le_refl _) _).alloc (by simp) _
  | exact (((Below.refl _ _).alloc (Nat.le_refl _) _).alloc (by simp) _).alloc (by simp;omega) _
  | exact ((((Below.refl _ _).alloc (Nat.le_refl _) _).alloc (by simp) _).alloc (by simp;omega) _).alloc (by simp;omega) _
  | exact (((((Below.refl _ _).alloc (Nat.le_refl _) _).alloc (by simp) _).alloc (by simp;omega) _).alloc (by simp;omega) _).alloc (by simp;omega) _
  | skip
 all_goals have hk2:=HKB2.out
 all_goals simp only [iff_true,Bool.false_eq_true,iff_false] at hk2
 all_goals rw [←HR.out]
 all_goals clear HR HKB2 HBE
 all_goals unfold badY
 all_goals rw [if_neg (by decide)]
 all_goals (try simp only [beq_eq_false_iff_ne,beq_iff_eq,bne_iff_ne,bne_eq_false_iff_eq,ne_eq] at *)
 all_goals rw [Bool.eq_iff_iff]
 all_goals simp only [Bool.not_eq_true',decide_eq_false_iff_not,bne_iff_ne,ne_eq,iff_true,true_iff,Bool.false_eq_true,false_iff,Decidable.not_not]
 all_goals omega
theorem scheck_any (B:Nat) (a:Option Addr) (len cap:Nat) (L:List Sy) (w:World) (hs:Sy.Sl w B a len L) (hB:B≤w.heap.size) (hcap:len≤cap) (hcm:(cap:Int)≤9223372036854775807) :
 Calls Tryz.prog 104 #[.slice a len cap] w fun r w'=>r=.returned (.int .i64 (checkY L))∧Below w.heap.size w w':=by
 obtain ⟨r,hr⟩:∃r,checkY L=r:=⟨_,rfl⟩
 rw [hr];have hl:(len:Int)≤9223372036854775807:=by omega
 have HG:Hid ((∀k,k<len→badY k (L.getD k Sy.zero)=false)→r=0):=Lib.hid (fun h=>hr▸checkY_good (by rw [hs.hl];exact h));have HX:Hid (∀k,k<len→badY k (L.getD k Sy.zero)=true→r=11):=Lib.hid (fun k hk h=>hr▸checkY_bad (by rw [hs.hl];exact hk) h);have HS:=Lib.hid hs;clear hr hs;go_enter Tryz.func104,Tryz.ntmps104
 go_wp2;go_loopw [3,4,5,8] (fun _ _ _ i wr=>∃k:Nat,k≤len∧i=.int .i64 k∧(∀j,j<k→badY j (L.getD j Sy.zero)=false)∧Below w.heap.size w wr) (fun _ _ _ i _=>len-(intOf i).toNat)
 case atStart=>exact ⟨0,Nat.zero_le _,rfl,fun j hj=>absurd hj (by omega),Below.refl _ _⟩
 case round=>
  obtain ⟨k,hk,rfl,hno,hbel⟩:=hrel;by_cases hlt:k<len
  ·obtain ⟨b,off,rfl,hbB,hcell⟩:=HS.out.hc (by omega);obtain ⟨c0,c1,c2,c3,c4,c5⟩:=(hcell k hlt).below (hbel.mono hB) hbB;have hok:=HS.out.okAt hlt;have HNX:=Lib.hid (bad_upto hno);have HBD:=Lib.hid (HX.out k hlt);have hlti:(k:Int)<len:=by omega
   have hbs:=hbel.size;have HBE:Hid (∀o,Below w.heap.size w (wr.alloc o)):=Lib.hid (fun o=>hbel.alloc hbs o);have HB1:k≠0→badY k (L.getD k Sy.zero)=badY 1 (L.getD k Sy.zero):=fun h=>by unfold badY;rw [if_neg h,if_neg (by decide)]
   generalize L.getD k Sy.zero=s at c0 c1 c2 c3 c4 c5 hok HNX HBD HB1;have HV:=Lib.hid (fun w1=>k6_valid_any s w1 hok);obtain ⟨⟨a0,a1⟩,⟨b0,b1⟩,⟨o0,o1⟩,⟨d0,d1⟩,⟨e0,e1⟩,⟨f0,f1⟩⟩:=hok;obtain ⟨na,inf,ot,se,va,si⟩:=s;unfold Sy.val at HV;simp only at c0 c1 c2 c3 c4 c5 a0 a1 b0 b1 o0 o1 d0 d1 e0 e1 f0 f1 HV;have hbw:b<wr.heap.size:=by omega
   clear hcell hno hbel;by_cases hk0:k=0
   ·subst hk0;rw [show ((0:Nat):Int)=0 from rfl];simp only [Nat.zero_mul,Nat.add_zero] at c0 c1 c2 c3 c4 c5;clear HV HB1;go_wp2;all_goals (try simp only [beq_eq_false_iff_ne,beq_iff_eq,bne_iff_ne,bne_eq_false_iff_eq,ne_eq] at *)
    all_goals first
     | (go_ret
        refine ⟨k6_ret_i64 (HBD.out ?_).symm,HBE.out _⟩;unfold badY;rw [if_pos rfl,decide_eq_true_eq];simp only
        omega)
     | (refine ⟨⟨1,by omega,by go_num,HNX.out ?_,HBE.out _⟩,by (simp [intOf]<;>omega)⟩
        unfold badY;rw [if_pos rfl,decide_eq_false_iff_not];simp only
        omega)
   ·have hk0b:((k:Int)==0)=false:=by simpa using hk0
    rw [HB1 hk0] at HBD HNX;generalize badY 1 ⟨na,inf,ot,se,va,si⟩=y at HV HBD HNX;cases y
    ·go_wp2_with fail;refine (HV.out _).mono ?_;rintro e w2 ⟨rfl,hb2⟩;have HB2:=Lib.hid ((HBE.out _).trans (hb2.mono (by simp;omega)));clear hb2;go_wp2;go_roundw
     case rel=>exact ⟨k+1,by omega,by go_num,HNX.out (by trivial),HB2.out⟩
     case measure=>(simp [intOf]<;>omega)
    ·go_wp2_with fail;refine (HV.out _).mono ?_;rintro e w2 ⟨rfl,hb2⟩;have HB2:=Lib.hid ((HBE.out _).trans (hb2.mono (by simp;omega)));clear hb2;go_wp2;go_ret;exact ⟨k6_ret_i64 (HBD.out (by trivial)).symm,HB2.out⟩
  ·obtain rfl:k=len:=by omega
   have HB:=Lib.hid hbel;have HN:=Lib.hid (HG.out hno);clear hbel hno;go_wp2;go_ret;exact ⟨k6_ret_i64 HN.out.symm,HB.out⟩
def yI (m:Pm):Int×Pm:=
 if m.yn=0 then (0,m) else if 1024<m.yn then (13,m)
 else if (bytesI m.m.sg m.m.zs m.yt (24*m.yn)).1≠0 then ((bytesI m.m.sg m.m.zs m.yt (24*m.yn)).1,m)
 else let B:=tabY (bytesI m.m.sg m.m.zs m.yt (24*m.yn)).2
  if B.1≠0 then (B.1,m) else (checkY B.2,{ m with m:={ m.m with sy:=B.2 } })
theorem y9_ok (g:Nat):StepOk g 54 yI:=by
 intro p m w h;have H:=Lib.hid h;have hgl:=h.lt;obtain ⟨Z,hZ⟩:∃Z,yI m=Z:=⟨_,rfl⟩
 have HZ:=Lib.hid hZ;rw [hZ];clear hZ;have hva:=h.row.v3;have hvb:=h.row.v4;have hvb2:=Lib.hid hvb.2;have HTM:Hid ((bytesI m.m.sg m.m.zs m.yt (24*m.yn)).2.length≤65536∧∀n∈(bytesI m.m.sg m.m.zs m.yt (24*m.yn)).2,0≤n∧n≤255):=Lib.hid ⟨Nat.le_trans (bytesI_max _ _ _ _) h.row.lz,bytesI_bd h.row.okz _ _ _⟩;have HLD:Hid (m.yn≤1024→∀w1,Ps9 g w1 p m→Calls Tryz.prog 100 #[.pointer (some ⟨g,0,none⟩),.int .u64 m.yt,.int .u64 (24*m.yn)] w1 (CutPost (bytesI m.m.sg m.m.zs m.yt (24*m.yn)) w1)):=Lib.hid (fun hle w1 h1=>
  loaded9_any g p m m.yt _ w1 h1 hva.2.1 hva.2.2 (by have:=hvb.2.1;omega) (by have:=hvb.2.1;omega))
 have hsy:p.x.sy.n=m.m.sy.length:=h.sym.1.hl.symm;have hsl:=h.row.ly;obtain ⟨⟨k,e,s,c,⟨sga,sgn,sgc⟩,so,⟨nda,ndn,ndc⟩,⟨nma,nmn,nmc⟩,⟨sya,syn,syc⟩,⟨rla,rln,rlc⟩,⟨zsa,zsn,zsc⟩⟩,⟨fia,fin,fic⟩,⟨n0,n1,n2⟩,v0,v1,v2,v3,v4,v5,v6,⟨tba,tbn,tbc⟩⟩:=p;simp only at hva hvb HLD hsy;obtain ⟨rfl,-⟩:=hva;obtain ⟨rfl,-⟩:=hvb;have q17:w.cell? ⟨g,17,none⟩=some (.int .u64 m.yn):=h.box.cell 17;by_cases h0:m.yn=0
 ·have hz:=HZ.out;unfold yI at hz;rw [if_pos h0] at hz;subst hz;rw [h0] at q17;clear h h0 HZ HLD hvb2 HTM;go_enter Tryz.func54,Tryz.ntmps54
  go_wp2;go_ret;exact ⟨rfl,fun _=>⟨_,H.out⟩,Kq.refl _ _⟩
 have h0b:(m.yn==0)=false:=by simpa using h0
 by_cases h1:1024<m.yn
 ·have hz:=HZ.out;unfold yI at hz;rw [if_neg h0,if_pos h1] at hz;subst hz;clear h h0 HZ HLD hvb2 HTM;go_enter Tryz.func54,Tryz.ntmps54
  go_wp2;go_ret;exact ⟨rfl,fun e=>(by cases e),Kq.refl _ _⟩
 have h1':m.yn≤1024:=by omega
 have HLD2:=Lib.hid (HLD.out h1');have hz:=HZ.out;unfold yI at hz;rw [if_neg h0,if_neg h1] at hz;have HZ2:=Lib.hid hz.symm;clear hz HZ HLD;generalize bytesI m.m.sg m.m.zs m.yt (24*m.yn)=T at HLD2 HZ2 HTM;obtain ⟨te,TL⟩:=T;simp only at HZ2 HTM;obtain ⟨tn,htn⟩:∃tn,TL.length=tn:=⟨_,rfl⟩
 have HTN:=Lib.hid htn;obtain ⟨P0,hP0⟩:∃P0:World→Prop,P0=fun w1=>Ps9 g w1 ⟨⟨k,e,s,c,⟨sga,sgn,sgc⟩,so,⟨nda,ndn,ndc⟩,⟨nma,nmn,nmc⟩,⟨sya,syn,syc⟩,⟨rla,rln,rlc⟩,⟨zsa,zsn,zsc⟩⟩,⟨fia,fin,fic⟩,⟨n0,n1,n2⟩,v0,v1,v2,m.yt,m.yn,v5,v6,⟨tba,tbn,tbc⟩⟩ (m)∧Kq g w w1:=⟨_,rfl⟩
 have HP0:Hid (P0 (w.drew)):=Lib.hid (by rw [hP0];exact ⟨H.out.drew,(Kq.refl g w).drew (Nat.le_of_lt hgl)⟩);have HPB:Hid (∀w1,P0 w1→Blk w1 g #[.int .i64 k,.int .u64 e,.int .u64 s,.int .i64 c,.slice sga sgn sgc,.string so,.slice nda ndn ndc,.slice nma nmn nmc,.slice sya syn syc,.slice rla rln rlc,.slice zsa zsn zsc,.slice fia fin fic,.slice n0 n1 n2,.int .u64 v0,.int .u64 v1,.int .u64 v2,.int .u64 m.yt,.int .u64 m.yn,.int .u64 v5,.int .u64 v6,.slice tba tbn tbc] 72):=Lib.hid (fun w1 h1=>by rw [hP0] at h1;exact h1.1.box);have HPC:Hid (∀w1,P0 w1→Calls Tryz.prog 100 #[.pointer (some ⟨g,0,none⟩),.int .u64 m.yt,.int .u64 (24*m.yn)] w1 fun r w2=>(∃u,r=.returned (.tuple #[u,.int .i64 te])∧w2.ownsRow (g+1) 5 1 u tn (TL.map (Value.int .u8)))∧P0 w2∧Kq g w1 w2):=Lib.hid (fun w1 h1=>by
  rw [hP0] at h1;have hl:=h1.1.lt;refine (HLD2.out w1 h1.1).mono ?_;rintro r w2 ⟨⟨u,hr,ho⟩,hb⟩;simp only at ho;rw [htn] at ho;refine ⟨⟨u,hr,own_base9 ho hl⟩,?_,Kq.later (Nat.le_of_lt hl) hb⟩;rw [hP0];exact ⟨h1.1.later hb,h1.2.trans (Kq.later (Nat.le_of_lt hl) hb)⟩)
 have HR1:=Lib.hid (fun w1 (h1:P0 w1)=>(by rw [hP0] at h1;exact h1:Ps9 g w1 ⟨⟨k,e,s,c,⟨sga,sgn,sgc⟩,so,⟨nda,ndn,ndc⟩,⟨nma,nmn,nmc⟩,⟨sya,syn,syc⟩,⟨rla,rln,rlc⟩,⟨zsa,zsn,zsc⟩⟩,⟨fia,fin,fic⟩,⟨n0,n1,n2⟩,v0,v1,v2,m.yt,m.yn,v5,v6,⟨tba,tbn,tbc⟩⟩ m∧Kq g w w1));have HW1:Hid (IntKind.u64.wrap (24*m.yn)=24*m.yn):=Lib.hid (by have:=hvb2.out.1;rw [IntKind.wrap_u64];omega);have hvb3:=hvb2.out;clear h hP0 HLD2 htn hvb2;go_enter Tryz.func54,Tryz.ntmps54
 go_wp2_with fail;refine wp_region_word (by kernel_rfl) 54 rfl [18,19,20,21,22,23,24,25,26,27,28,29,30,17,31,32,3,4] (Kq (g)) (factsOf [Is (.pointer (some ⟨g,0,none⟩)),Is (.pointer (some ⟨g,0,none⟩)),Is (.pointer (some ⟨g,0,none⟩)),Is (.pointer (some ⟨g,12,none⟩)),Is (.pointer (some ⟨g,16,none⟩)),Is (.int .u64 m.yt),Is (.pointer (some ⟨g,0,none⟩)),Is (.pointer (some ⟨g,0,none⟩)),Is (.pointer (some ⟨g,12,none⟩)),Is (.pointer (some ⟨g,17,none⟩)),Is (.int .u64 m.yn),Is (.int .u64 (24*m.yn)),(OwE (g+1) 5 1 tn (TL.map (Value.int .u8)) te),(OwE (g+1) 5 1 tn (TL.map (Value.int .u8)) te),(Ow (g+1) 5 1 tn (TL.map (Value.int .u8))),Is (.int .i64 te),(Ow (g+1) 5 1 tn (TL.map (Value.int .u8))),Is (.int .i64 te)]) (Jo 12 (P0) (P0)) ?mono5 ?hj5 (by kernel_rfl) ?start5 ?steps5 ?fin5;case mono5=>exact factsOf_mono9 (mono9_cons (Is.mono9 _ _) (mono9_cons (Is.mono9 _ _) (mono9_cons (Is.mono9 _ _) (mono9_cons (Is.mono9 _ _) (mono9_cons (Is.mono9 _ _) (mono9_cons (Is.mono9 _ _) (mono9_cons (Is.mono9 _ _) (mono9_cons (Is.mono9 _ _) (mono9_cons (Is.mono9 _ _) (mono9_cons (Is.mono9 _ _) (mono9_cons (Is.mono9 _ _) (mono9_cons (Is.mono9 _ _) (mono9_cons (OwE.mono (Nat.lt_succ_self _) _ _ _ _ _) (mono9_cons (OwE.mono (Nat.lt_succ_self _) _ _ _ _ _) (mono9_cons (Ow.mono (Nat.lt_succ_self _) _ _ _ _) (mono9_cons (Is.mono9 _ _) (mono9_cons (Ow.mono (Nat.lt_succ_self _) _ _ _ _) (mono9_cons (Is.mono9 _ _) (mono9_nil _)))))))))))))))))))
 case hj5=>exact Jo.congr (by decide)
 case start5=>exact ⟨fun _=>HP0.out,fun h=>by cases h⟩
 case fin5=>
  intro v9 L w9 hJ hall hF;have hQ:=hJ.p1 (hall 12 (by decide));have f18:v9 0=.pointer (some ⟨g,0,none⟩):=hF 0 (by decide) (by decide);have f19:v9 1=.pointer (some ⟨g,0,none⟩):=hF 1 (by decide) (by decide);have f20:v9 2=.pointer (some ⟨g,0,none⟩):=hF 2 (by decide) (by decide);have f21:v9 3=.pointer (some ⟨g,12,none⟩):=hF 3 (by decide) (by decide);have f22:v9 4=.pointer (some ⟨g,16,none⟩):=hF 4 (by decide) (by decide);have f23:v9 5=.int .u64 m.yt:=hF 5 (by decide) (by decide);have f24:v9 6=.pointer (some ⟨g,0,none⟩):=hF 6 (by decide) (by decide);have f25:v9 7=.pointer (some ⟨g,0,none⟩):=hF 7 (by decide) (by decide);have f26:v9 8=.pointer (some ⟨g,12,none⟩):=hF 8 (by decide) (by decide);have f27:v9 9=.pointer (some ⟨g,17,none⟩):=hF 9 (by decide) (by decide);have f28:v9 10=.int .u64 m.yn:=hF 10 (by decide) (by decide);have f29:v9 11=.int .u64 (24*m.yn):=hF 11 (by decide) (by decide);have f32:v9 15=.int .i64 te:=hF 15 (by decide) (by decide);have hf3:(Ow (g+1) 5 1 tn (TL.map (Value.int .u8))) (v9 16) w9:=hF 16 (by decide) (by decide);have f4:v9 17=.int .i64 te:=hF 17 (by decide) (by decide);clear hJ hall hF;simp only [putAll,List.set_cons_succ,List.set_cons_zero,Nat.reduceAdd,f18,f19,f20,f21,f22,f23,f24,f25,f26,f27,f28,f29,f32,f4];clear f4 f18 f19 f20 f21 f22 f23 f24 f25 f26 f27 f28 f29 f32;obtain ⟨hst,hkq⟩:=HR1.out _ hQ;obtain ⟨⟨ba,bn,bc⟩,-,hbn,hbv⟩:=own_sh hf3;simp only at hbn hbv;subst hbn;unfold Ow at hf3;rw [hbv] at hf3⊢;have HKQ:=Lib.hid hkq;have HST:=Lib.hid hst;have HRW:=Lib.hid hf3;have hgl2:=hst.lt;clear hQ hkq hst hbv hf3;by_cases hte:te=0
  ·subst hte;have HBT:Hid (Bys w9 w9.heap.size ba bn TL∧bn≤bc∧(bc:Int)≤9223372036854775807):=Lib.hid (by
    obtain ⟨e0,l0,c0⟩:=own_n HRW.out;exact ⟨Bys.own HTM.out.2 HRW.out,l0,c0⟩)
   have hbn:bn≤65536:=by rw [←HTN.out];exact HTM.out.1
   have HTB:=Lib.hid (k6_stable_any w9.heap.size ba bn bc TL w9 HBT.out.1 (Nat.le_refl _) (by omega) HBT.out.2.1 HBT.out.2.2);have HYO:=Lib.hid (tabY_ok HTM.out.2);have HYL:Hid ((tabY TL).2.length≤65536):=Lib.hid (Nat.le_trans (tabY_len TL) HTM.out.1);have HZ3:Hid (Z=if (tabY TL).1≠0 then ((tabY TL).1,m) else (checkY (tabY TL).2,{ m with m:={ m.m with sy:=(tabY TL).2 } })):=Lib.hid (by have hz:=HZ2.out;rw [if_neg (by decide)] at hz;exact hz);generalize tabY TL=B at HTB HYO HYL HZ3;obtain ⟨be,BL⟩:=B;simp only at HTB HYO HYL HZ3;obtain ⟨yn,hyn⟩:∃yn,BL.length=yn:=⟨_,rfl⟩
   have HYN:=Lib.hid hyn;rw [hyn] at HTB;clear hyn HZ2 HRW;go_wp2_with fail;refine HTB.out.mono ?_;rintro r w4 ⟨⟨u,rfl,ho⟩,hb4⟩;obtain ⟨⟨xa,xn,xc⟩,-,hxn,rfl⟩:=own_sh ho;simp only at hxn;subst hxn;have hst4:=HST.out.later hb4;have hbx4:=hst4.box;have cc:w4.cell? ⟨g,8,none⟩=some (.slice sya syn syc):=hbx4.cell 8;have ff:=hbx4.frozen 8;have hgl4:=hbx4.lt;have hkq4:Kq g w w4:=HKQ.out.trans (Kq.later (Nat.le_of_lt hgl2) hb4);have hks:Kq g w4 (w4.setCell ⟨g,8,none⟩ (.slice xa xn xc)):=(Kq.refl g w4).set 8 _;have HKS:=Lib.hid (hkq4.trans hks);have HSS:Hid (Ps9 g (w4.setCell ⟨g,8,none⟩ (.slice xa xn xc)) ⟨⟨k,e,s,c,⟨sga,sgn,sgc⟩,so,⟨nda,ndn,ndc⟩,⟨nma,nmn,nmc⟩,⟨xa,xn,xc⟩,⟨rla,rln,rlc⟩,⟨zsa,zsn,zsc⟩⟩,⟨fia,fin,fic⟩,⟨n0,n1,n2⟩,v0,v1,v2,m.yt,m.yn,v5,v6,⟨tba,tbn,tbc⟩⟩ { m with m:={ m.m with sy:=BL } }):=Lib.hid (
    hst4.next hks (hbx4.set 8 (.slice xa xn xc)) { hst4.row.kp hks.kp (Nat.lt_succ_self _) with sy:=by simp only;rw [HYN.out];exact own_kp hks.kp (own_base9 ho hgl2) (Nat.lt_succ_self _),oky:=HYO.out,ly:=HYL.out } rfl rfl)
   have z8:(w4.setCell ⟨g,8,none⟩ (.slice xa xn xc)).cell? ⟨g,8,none⟩=some (.slice xa xn xc):=HSS.out.box.cell 8;have z8:(w4.setCell ⟨g,8,none⟩ (.slice xa xn xc)).cell? ⟨g,8,none⟩=some (.slice xa xn xc):=HSS.out.box.cell 8;clear ho hb4 hst4 hbx4 hkq4 hks HTB;by_cases hbe:be=0
   ·subst hbe;have hz:=HZ3.out;rw [if_neg (by decide)] at hz;subst hz;have HCK:Hid (Calls Tryz.prog 104 #[.slice xa xn xc] (w4.setCell ⟨g,8,none⟩ (.slice xa xn xc)) fun r w'=>r=.returned (.int .i64 (checkY BL))∧Below (w4.setCell ⟨g,8,none⟩ (.slice xa xn xc)).heap.size (w4.setCell ⟨g,8,none⟩ (.slice xa xn xc)) w'):=Lib.hid (by
     have h5:=HSS.out.sym;exact scheck_any _ xa xn xc BL _ h5.1 (Nat.le_refl _) h5.2.1 h5.2.2)
    go_wp2_with fail;refine HCK.out.mono ?_;rintro r w5 ⟨rfl,hb5⟩;have HS5:=Lib.hid (HSS.out.later hb5);have HK5:=Lib.hid (HKS.out.trans (Kq.later (by simp;omega) hb5));clear hb5;go_wp2;go_ret;exact ⟨rfl,fun _=>⟨_,HS5.out⟩,HK5.out⟩
   ·have hz:=HZ3.out;rw [if_pos hbe] at hz;subst hz;have hbb:(be != 0)=true:=by rw [bne_iff_ne];exact hbe
    go_wp2;go_ret;exact ⟨rfl,fun e=>absurd e hbe,HKS.out⟩
  ·have hz:=HZ2.out;rw [if_pos hte] at hz;subst hz;have hteb:(te != 0)=true:=by rw [bne_iff_ne];exact hte
   go_wp2;go_ret;exact ⟨rfl,fun e=>absurd e hte,HKQ.out⟩
 case steps5=>
  refine ⟨?_,?_,?_,?_,?_,?_,?_,?_,?_,?_,?_,?_,?_,?_,?_,?_,?_,?_,trivial⟩;all_goals intro L y w9 hJ hL hy0 hp0 hcl hun
  all_goals have hy:=Lib.hid hy0
  all_goals have hp:=Lib.hid hp0
  all_goals clear hy0 hp0 hun
  ·have e1:y 0=.pointer (some ⟨g,0,none⟩):=hy.out 0 (by decide);have hJ3:=Lib.hid (hJ.pure (show (12:Nat)≠0 by decide));intro K Q hK;clear hcl hJ;obtain ⟨A,hA,v1⟩:=evA1 (n:=54) e1 (by decide);rw [hA] at hK⊢;clear hA hy hp;go_simp;exact hK _ _ ⟨Kq.refl _ _,fun _=>rfl,hJ3.out⟩
  ·have e1:y 0=.pointer (some ⟨g,0,none⟩):=hy.out 0 (by decide);have hJ3:=Lib.hid (hJ.pure (show (12:Nat)≠1 by decide));intro K Q hK;clear hcl hJ;obtain ⟨A,hA,v1⟩:=evA1 (n:=54) e1 (by decide);rw [hA] at hK⊢;clear hA hy hp;go_simp;exact hK _ _ ⟨Kq.refl _ _,fun _=>rfl,hJ3.out⟩
  ·have e1:y 19=.pointer (some ⟨g,0,none⟩):=(hp.out 1 (by decide)).2 (by decide);have hJ3:=Lib.hid (hJ.pure (show (12:Nat)≠2 by decide));intro K Q hK;clear hcl hJ;obtain ⟨A,hA,v1⟩:=evA1 (n:=54) e1 (by decide);rw [hA] at hK⊢;clear hA hy hp;go_simp;exact hK _ _ ⟨Kq.refl _ _,fun _=>rfl,hJ3.out⟩
  ·have e1:y 20=.pointer (some ⟨g,0,none⟩):=(hp.out 2 (by decide)).2 (by decide);have hJ3:=Lib.hid (hJ.pure (show (12:Nat)≠3 by decide));intro K Q hK;clear hcl hJ;obtain ⟨A,hA,v1⟩:=evA1 (n:=54) e1 (by decide);rw [hA] at hK⊢;clear hA hy hp;go_simp;exact hK _ _ ⟨Kq.refl _ _,fun _=>rfl,hJ3.out⟩
  ·have e1:y 21=.pointer (some ⟨g,12,none⟩):=(hp.out 3 (by decide)).2 (by decide);have hJ3:=Lib.hid (hJ.pure (show (12:Nat)≠4 by decide));intro K Q hK;clear hcl hJ;obtain ⟨A,hA,v1⟩:=evA1 (n:=54) e1 (by decide);rw [hA] at hK⊢;clear hA hy hp;go_simp;exact hK _ _ ⟨Kq.refl _ _,fun _=>rfl,hJ3.out⟩
  ·have e1:y 22=.pointer (some ⟨g,16,none⟩):=(hp.out 4 (by decide)).2 (by decide);have hLj:L 12=false:=by
    cases h:L 12 with
    | false=>rfl
    | true=>have:=(hcl 12 _ rfl h 5 (by decide));rw [hL] at this;cases this
   have hP:=Lib.hid (hJ.p0 hLj);have q16:w9.cell? ⟨g,16,none⟩=some (.int .u64 m.yt):=(HPB.out _ hP.out).cell 16;have hJ3:=Lib.hid (hJ.pure (show (12:Nat)≠5 by decide));intro K Q hK;clear hcl hJ;obtain ⟨A,hA,v1⟩:=evA1 (n:=54) e1 (by decide);rw [hA] at hK⊢;clear hA hy hp;go_simp;exact hK _ _ ⟨Kq.refl _ _,fun _=>rfl,hJ3.out⟩
  ·have e1:y 0=.pointer (some ⟨g,0,none⟩):=hy.out 0 (by decide);have hJ3:=Lib.hid (hJ.pure (show (12:Nat)≠6 by decide));intro K Q hK;clear hcl hJ;obtain ⟨A,hA,v1⟩:=evA1 (n:=54) e1 (by decide);rw [hA] at hK⊢;clear hA hy hp;go_simp;exact hK _ _ ⟨Kq.refl _ _,fun _=>rfl,hJ3.out⟩
  ·have e1:y 24=.pointer (some ⟨g,0,none⟩):=(hp.out 6 (by decide)).2 (by decide);have hJ3:=Lib.hid (hJ.pure (show (12:Nat)≠7 by decide));intro K Q hK;clear hcl hJ;obtain ⟨A,hA,v1⟩:=evA1 (n:=54) e1 (by decide);rw [hA] at hK⊢;clear hA hy hp;go_simp;exact hK _ _ ⟨Kq.refl _ _,fun _=>rfl,hJ3.out⟩
  ·have e1:y 25=.pointer (some ⟨g,0,none⟩):=(hp.out 7 (by decide)).2 (by decide);have hJ3:=Lib.hid (hJ.pure (show (12:Nat)≠8 by decide));intro K Q hK;clear hcl hJ;obtain ⟨A,hA,v1⟩:=evA1 (n:=54) e1 (by decide);rw [hA] at hK⊢;clear hA hy hp;go_simp;exact hK _ _ ⟨Kq.refl _ _,fun _=>rfl,hJ3.out⟩
  ·have e1:y 26=.pointer (some ⟨g,12,none⟩):=(hp.out 8 (by decide)).2 (by decide);have hJ3:=Lib.hid (hJ.pure (show (12:Nat)≠9 by decide));intro K Q hK;clear hcl hJ;obtain ⟨A,hA,v1⟩:=evA1 (n:=54) e1 (by decide);rw [hA] at hK⊢;clear hA hy hp;go_simp;exact hK _ _ ⟨Kq.refl _ _,fun _=>rfl,hJ3.out⟩
  ·have e1:y 27=.pointer (some ⟨g,17,none⟩):=(hp.out 9 (by decide)).2 (by decide);have hLj:L 12=false:=by
    cases h:L 12 with
    | false=>rfl
    | true=>have:=(hcl 11 _ rfl (hcl 12 _ rfl h 11 (by decide)) 10 (by decide));rw [hL] at this;cases this
   have hP:=Lib.hid (hJ.p0 hLj);have q17:w9.cell? ⟨g,17,none⟩=some (.int .u64 m.yn):=(HPB.out _ hP.out).cell 17;have hJ3:=Lib.hid (hJ.pure (show (12:Nat)≠10 by decide));intro K Q hK;clear hcl hJ;obtain ⟨A,hA,v1⟩:=evA1 (n:=54) e1 (by decide);rw [hA] at hK⊢;clear hA hy hp;go_simp;exact hK _ _ ⟨Kq.refl _ _,fun _=>rfl,hJ3.out⟩
  ·have e1:y 28=.int .u64 m.yn:=(hp.out 10 (by decide)).2 (by decide);have hJ3:=Lib.hid (hJ.pure (show (12:Nat)≠11 by decide));intro K Q hK;clear hcl hJ;obtain ⟨A,hA,v1⟩:=evA1 (n:=54) e1 (by decide);rw [hA] at hK⊢;clear hA hy hp;go_simp;exact hK _ _ ⟨Kq.refl _ _,fun _=>by rw [HW1.out];rfl,hJ3.out⟩
  ·have e1:y 18=.pointer (some ⟨g,0,none⟩):=(hp.out 0 (by decide)).2 (by decide);have e2:y 23=.int .u64 m.yt:=(hp.out 5 (by decide)).2 (by decide);have e3:y 29=.int .u64 (24*m.yn):=(hp.out 11 (by decide)).2 (by decide);have hP:=Lib.hid (hJ.p0 hL);intro K Q hK;clear hcl hJ;obtain ⟨A,hA,v1,v2,v3⟩:=evA3 (n:=54) e1 e2 e3 (by decide) (by decide) (by decide);rw [hA] at hK⊢;clear hA hy hp;go_simp;go_at_call 100
   refine (HPC.out _ hP.out).mono ?_;rintro r w7 ⟨⟨u,rfl,ho⟩,hp7,hk7⟩;exact hK _ _ ⟨hk7,fun _=>⟨u,rfl,ho⟩,Jo.second hp7⟩
  ·have e1:(OwE (g+1) 5 1 tn (TL.map (Value.int .u8)) te) (y 30) w9:=(hp.out 12 (by decide)).2 (by decide);obtain ⟨u1,hv1,ho1⟩:=e1;have hJ3:=Lib.hid (hJ.pure (show (12:Nat)≠13 by decide));intro K Q hK;clear hcl hJ;obtain ⟨A,hA,v1⟩:=evA1 (n:=54) hv1 (by decide);rw [hA] at hK⊢;clear hA hy hp;go_simp;exact hK _ _ ⟨Kq.refl _ _,fun _=>⟨_,rfl,ho1⟩,hJ3.out⟩
  ·have e1:(OwE (g+1) 5 1 tn (TL.map (Value.int .u8)) te) (y 17) w9:=(hp.out 13 (by decide)).2 (by decide);obtain ⟨u1,hv1,ho1⟩:=e1;have hJ3:=Lib.hid (hJ.pure (show (12:Nat)≠14 by decide));intro K Q hK;clear hcl hJ;obtain ⟨A,hA,v1⟩:=evA1 (n:=54) hv1 (by decide);rw [hA] at hK⊢;clear hA hy hp;go_simp;exact hK _ _ ⟨Kq.refl _ _,fun _=>ho1,hJ3.out⟩
  ·have e1:(OwE (g+1) 5 1 tn (TL.map (Value.int .u8)) te) (y 17) w9:=(hp.out 13 (by decide)).2 (by decide);obtain ⟨u1,hv1,ho1⟩:=e1;have hJ3:=Lib.hid (hJ.pure (show (12:Nat)≠15 by decide));intro K Q hK;clear hcl hJ;obtain ⟨A,hA,v1⟩:=evA1 (n:=54) hv1 (by decide);rw [hA] at hK⊢;clear hA hy hp;go_simp;exact hK _ _ ⟨Kq.refl _ _,fun _=>rfl,hJ3.out⟩
  ·have e1:(Ow (g+1) 5 1 tn (TL.map (Value.int .u8))) (y 31) w9:=(hp.out 14 (by decide)).2 (by decide);have hv1:y 31=y 31:=rfl;have hJ3:=Lib.hid (hJ.pure (show (12:Nat)≠16 by decide));intro K Q hK;clear hcl hJ;obtain ⟨A,hA,v1⟩:=evA1 (n:=54) hv1 (by decide);rw [hA] at hK⊢;clear hA hy hp;go_simp;exact hK _ _ ⟨Kq.refl _ _,fun _=>e1,hJ3.out⟩
  ·have e1:y 32=.int .i64 te:=(hp.out 15 (by decide)).2 (by decide);have hJ3:=Lib.hid (hJ.pure (show (12:Nat)≠17 by decide));intro K Q hK;clear hcl hJ;obtain ⟨A,hA,v1⟩:=evA1 (n:=54) e1 (by decide);rw [hA] at hK⊢;clear hA hy hp;go_simp;exact hK _ _ ⟨Kq.refl _ _,fun _=>rfl,hJ3.out⟩
end Go.Proofs.YtclgbdfkdbbinaaGreat
