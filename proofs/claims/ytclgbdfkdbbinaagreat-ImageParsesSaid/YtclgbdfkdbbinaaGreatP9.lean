/-
  What is proved here: words and contracts, a part of those that the statement rests on (P9).
  Conditions: none but that the arguments are values of their types.
-/
import Derived.Test.YtclgbdfkdbbinaaGreatP8
import Derived.Test.YtclgbdfkdbbinaaGreatP4
import Derived.Test.YtclgbdfkdbbinaaGreatP5
import Derived.Test.YtclgbdfkdbbinaaGreatP6
import Derived.Test.YtclgbdfkdbbinaaGreatP7
import Derived.Test.YtclgbdfkdbbinaaGreatP1
import Derived.Deep.Cut
import Derived.Deep.DeepCutAuto
set_option linter.unusedVariables false
set_option linter.unusedSimpArgs false
set_option maxRecDepth 100000
set_option maxHeartbeats 12800000
namespace Go.Proofs.YtclgbdfkdbbinaaGreat
open Go.RowKit
theorem named_15 (y:Nat→Value) (B:Nat) (m:Im) (w:World) (k e s' c:Int) (sga:Option Addr) (sgn sgc:Nat) (zsa:Option Addr) (zsn zsc:Nat) (gd ga:Nat) (na:Option Addr) (nc:Nat) (V tt:List Int) (ta:Option Addr) (tc:Nat) (Z:Int×Na) (hc:NCtx B w m ⟨k,e,s',c,⟨sga,sgn,sgc⟩,.empty,Sh.zero,Sh.zero,Sh.zero,Sh.zero,⟨zsa,zsn,zsc⟩⟩ V tt tc) (h2:y 2=.pointer (some ⟨w.heap.size,0,none⟩)) (h4:y 4=.pointer (some ⟨w.heap.size+1+1,0,none⟩)) (h8:y 8=.pointer (some ⟨gd,0,none⟩)) (h10:y 10=.slice ta tt.length tc) (nn:Nat) (N:List Int) (so:ByteArray) (wa:World) (hst:NSt w wa ⟨k,e,s',c,⟨sga,sgn,sgc⟩,so,⟨none,0,0⟩,⟨none,0,0⟩,⟨none,0,0⟩,⟨none,0,0⟩,⟨zsa,zsn,zsc⟩⟩) (hkp6:∀wx,Kp w.heap.size wa wx→Blk wx gd #[.slice na nn nc,.slice (some ⟨ga,0,none⟩) 7 7] 91∧Nus wx wx.heap.size (some ⟨ga,0,none⟩) 7 V∧Nus wx wx.heap.size na nn N∧Bys wx wx.heap.size ta tt.length tt) (hnl:N.length=nn) (hnn2:nn≤1000001) (hz:Z=needsI m.sg m.zs V N tt so) :
 Code.wp Tryz.prog (restAt 15 (Tryz.f64.body.getD .skip)) (bodyPost Tryz.prog Tryz.f64 (NamedPost ⟨k,e,s',c,⟨sga,sgn,sgc⟩,.empty,Sh.zero,Sh.zero,Sh.zero,Sh.zero,⟨zsa,zsn,zsc⟩⟩ Z w)) ⟨frameOf 231 y,[]⟩ wa:=by
 rw [fr231,h2,h4,h8,h10];clear h2 h4 h8 h10;conv=>arg 2;whnf
 obtain ⟨hB,hl,hX,hVL,htc1,htc2⟩:=hc;have HX:=Lib.hid hX;have HVL:=Lib.hid hVL;clear hX hVL;obtain ⟨V0,hV0⟩:∃q,V.getD 0 0=q:=⟨_,rfl⟩
 obtain ⟨V1,hV1⟩:∃q,V.getD 1 0=q:=⟨_,rfl⟩
 obtain ⟨V2,hV2⟩:∃q,V.getD 2 0=q:=⟨_,rfl⟩
 obtain ⟨V3,hV3⟩:∃q,V.getD 3 0=q:=⟨_,rfl⟩
 obtain ⟨V4,hV4⟩:∃q,V.getD 4 0=q:=⟨_,rfl⟩
 obtain ⟨V5,hV5⟩:∃q,V.getD 5 0=q:=⟨_,rfl⟩
 obtain ⟨V6,hV6⟩:∃q,V.getD 6 0=q:=⟨_,rfl⟩
 have HVE:=Lib.hid (show V.getD 0 0=V0∧V.getD 1 0=V1∧V.getD 2 0=V2∧V.getD 3 0=V3∧V.getD 4 0=V4∧V.getD 5 0=V5∧V.getD 6 0=V6 from ⟨hV0,hV1,hV2,hV3,hV4,hV5,hV6⟩);clear hV0 hV1 hV2 hV3 hV4 hV5 hV6;have HS6:=Lib.hid hst;have HZ8:=Lib.hid hz;have HKP6:=Lib.hid hkp6;have HNL:=Lib.hid hnl;have hszc:w.heap.size+2<wa.heap.size:=hst.res.lt;obtain ⟨i0,hi,hz0,hz1,hz2⟩:=info_parts info_str;have HI:=Lib.hid hi;have HI0:=Lib.hid hz0;have HI1:=Lib.hid hz1;have HI2:=Lib.hid hz2;clear hi hz0 hz1 hz2;clear hst hz hkp6 hnl;go_upto_block 0 with fail
 go_cut [] (fun wx=>∃(nd:Sh) (Ls:List ByteArray),NSt w wx ⟨k,e,s',c,⟨sga,sgn,sgc⟩,so,nd,⟨none,0,0⟩,⟨none,0,0⟩,⟨none,0,0⟩,⟨zsa,zsn,zsc⟩⟩∧Kp w.heap.size wa wx∧wx.ownsRow wa.heap.size 9 1 (.slice nd.a nd.n nd.c) nn (Ls.map Value.string)∧Ls.length=nn∧Z=symsI m.sg m.zs V tt so Ls)
 case first=>
  go_wp2_with fail;go_loopw [14,15,16] (fun i _ _ wr=>∃(q:Nat) (nd:Sh) (Ls:List ByteArray),q≤nn∧i=.int .i64 q∧Ls.length=q∧NeedUp tt N q Ls∧NSt w wr ⟨k,e,s',c,⟨sga,sgn,sgc⟩,so,nd,⟨none,0,0⟩,⟨none,0,0⟩,⟨none,0,0⟩,⟨zsa,zsn,zsc⟩⟩∧Kp w.heap.size wa wr∧wr.ownsRow wa.heap.size 9 1 (.slice nd.a nd.n nd.c) q (Ls.map Value.string)) (fun i _ _ _=>nn-(intOf i).toNat)
  case atStart=>exact ⟨0,⟨none,0,0⟩,[],Nat.zero_le _,rfl,rfl,NeedUp.zero _ _,HS6.out,Kp.refl _ _,World.ownsRow_nil _ _ _ _⟩
  case round=>
   obtain ⟨q,nd,Ls,hq,rfl,hLl,hup,hns,hkp,hown⟩:=hrel;obtain ⟨hgd,hvv,hnv,htt⟩:=HKP6.out wr hkp;have d0:wr.cell? ⟨gd,0,none⟩=some (.slice na nn nc):=hgd.cell 0;have HNS:=Lib.hid hns;have HKW:=Lib.hid hkp;have HOW:=Lib.hid hown;have HVW:=Lib.hid hvv;have HTW:=Lib.hid htt;have HGW:=Lib.hid hgd;have HNW:=Lib.hid hnv;have HUP:=Lib.hid hup;have HLL:=Lib.hid hLl;have hbw:w.heap.size+2<wr.heap.size:=hns.res.lt;have hcw:wa.heap.size≤wr.heap.size:=hkp.size;clear hns hkp hown hvv htt hgd hnv hup hLl;by_cases hlt:q<nn
   ·have hlti:(q:Int)<nn:=by omega
    have hlN:q<N.length:=by rw [HNL.out];exact hlt
    obtain ⟨nb,noff,hna,-,hnc⟩:=HNW.out.hc (by omega);subst hna;have n0:=hnc q hlt;have hp:=HNW.out.at hlt;have HUE:=Lib.hid (fun h=>HUP.out.err hlN h);have HUF:=Lib.hid (fun h h'=>HUP.out.form hlN h h');have HUS:=Lib.hid (fun h h'=>HUP.out.succ hlN h h');generalize N.getD q 0=p at n0 hp HUE HUF HUS;obtain ⟨hp0,hp1⟩:=hp;have HAT:=Lib.hid (ratN_any _ ta tt.length tc tt p wr HTW.out htc1 htc2 hp0);generalize atN tt p=A at HAT HUE HUF HUS;obtain ⟨ae,an⟩:=A;simp only at HUE HUF HUS;clear hnc;go_wp2_with fail;refine HAT.out.mono ?_;rintro r w5 ⟨rfl,rfl⟩;clear HAT;by_cases hae:ae=0
    ·subst hae;by_cases han:an=.empty
     ·have hz:Z=(11,na0):=by
       rw [HZ8.out];unfold needsI;rw [HUF.out rfl han,if_pos (by decide)]
      have hse:an.toList.isEmpty=true:=by rw [han];exact empty_list
      have HZE:=Lib.hid hz;clear hz HUE HUF HUS han;have HSE:=HNS.out;obtain ⟨q0,q1,q2,q3,q4,q5,q6,q7,q8,q9,q10⟩:=Iv.cs HSE.res;obtain ⟨f0,f1,f2,f3,f4,f5,f6,f7,f8,f9,f10⟩:=Iv.fs HSE.res;obtain ⟨x0,x1,x2,x3,x4,x5,x6,x7,x8,x9,x10⟩:=Iv.cs HSE.box;have HBE:=Lib.hid HSE.bel;clear HSE;go_wp2;refine bodyPost_ret (v:=.tuple #[.agg #[.int .i64 k,.int .u64 e,.int .u64 s',.int .i64 c,.slice sga sgn sgc,.string so,.slice nd.a nd.n nd.c,.slice none 0 0,.slice none 0 0,.slice none 0 0,.slice zsa zsn zsc],.int .i64 11]) (by simp [results,Tryz.results64,go_sem,q0,q1,q2,q3,q4,q5,q6,q7,q8,q9,q10]) rfl (NamedPost.err ⟨k,e,s',c,⟨sga,sgn,sgc⟩,so,nd,⟨none,0,0⟩,⟨none,0,0⟩,⟨none,0,0⟩,⟨zsa,zsn,zsc⟩⟩ HZE.out (by decide) rfl ?_);exact ((((((((((HBE.out.setCell (Nat.le_add_right _ 2) _).setCell (Nat.le_add_right _ 2) _).setCell (Nat.le_add_right _ 2) _).setCell (Nat.le_add_right _ 2) _).setCell (Nat.le_add_right _ 2) _).setCell (Nat.le_add_right _ 2) _).setCell (Nat.le_add_right _ 2) _).setCell (Nat.le_add_right _ 2) _).setCell (Nat.le_add_right _ 2) _).setCell (Nat.le_add_right _ 2) _).setCell (Nat.le_add_right _ 2) _
     ·have hse:an.toList.isEmpty=false:=ne_list han;have HU1:=Lib.hid (HUS.out rfl han);have x6:wr.cell? ⟨w.heap.size,6,none⟩=some (.slice nd.a nd.n nd.c):=HNS.out.box.cell 6;clear HUE HUF HUS han;go_wp2_with (at_builtin;refine wpList_append_own _ rfl _ _ 28 rfl wa.heap.size 9 i0 (.string .empty) 1 16 Tryz.underlying28 HI.out HI0.out HI1.out HI2.out rfl (by decide) _ q _ rfl (HOW.out.alloc _) ⟨wr.heap.size,0,none⟩ 1 1 [.string an] rfl rfl ?c1 ?c2 ?c3 ?c4 ?c5 ?_);case c1=>exact cell_one_new _ _ _
      case c2=>intro u hu;obtain rfl:=List.mem_singleton.1 hu;rfl
      case c3=>unfold maxLen;omega
      case c4=>omega
      case c5=>simp;omega
      intro v4 w4 hown4 hg4 _;obtain ⟨⟨na4,nn4,nc4⟩,hok4,hn4,rfl⟩:=own_sh hown4;simp only at hn4;subst hn4;have hlo:∀z,Value.ownBlock (.slice nd.a nd.n nd.c)=some z→wa.heap.size≤z:=fun z e=>(HOW.out.lt z e).1;have hns4:=(HNS.out.later ((Below.refl _ _).alloc (Nat.le_refl wr.heap.size) (.cells #[.string an] 9))).grown hg4 (fun z e=>by have:=hlo z e;omega);have hkp4:=(HKW.out.later ((Below.refl _ _).alloc (Nat.le_refl wr.heap.size) (.cells #[.string an] 9))).grown hg4 hlo;have c6:w4.cell? ⟨w.heap.size,6,none⟩=some (.slice nd.a nd.n nd.c):=hns4.box.cell 6;have f6:=hns4.box.frozen 6;have HNS4:=Lib.hid (hns4.setNd ⟨na4,q+1,nc4⟩);have HKP4:=Lib.hid (hkp4.set 6 (.slice na4 (q+1) nc4));have HO4:Hid (w4.ownsRow wa.heap.size 9 1 (.slice na4 (q+1) nc4) (q+1) ((Ls++[an]).map Value.string)):=Lib.hid (by rw [List.map_append];exact hown4);have HO5:=Lib.hid (ownsRow_setCell_below HO4.out (a:=⟨w.heap.size,6,none⟩) (by show w.heap.size<wa.heap.size;omega) (.slice na4 (q+1) nc4));clear hown4 hg4 hns4 hkp4 hlo;go_wp2;go_roundw
      case rel=>exact ⟨q+1,⟨na4,q+1,nc4⟩,Ls++[an],by omega,by go_num,by rw [List.length_append,HLL.out];rfl,HU1.out,HNS4.out,HKP4.out,HO5.out⟩
      case measure=>(simp [intOf]<;>omega)
    ·have hz:Z=(ae,na0):=by
      have e:=HUE.out hae;rw [HZ8.out];unfold needsI;rw [e,if_pos hae]
     have haeb:(ae != 0)=true:=by rw [bne_iff_ne];exact hae
     have HZE:=Lib.hid hz;clear hz HUE HUF HUS;have HSE:=HNS.out;obtain ⟨q0,q1,q2,q3,q4,q5,q6,q7,q8,q9,q10⟩:=Iv.cs HSE.res;obtain ⟨f0,f1,f2,f3,f4,f5,f6,f7,f8,f9,f10⟩:=Iv.fs HSE.res;obtain ⟨x0,x1,x2,x3,x4,x5,x6,x7,x8,x9,x10⟩:=Iv.cs HSE.box;have HBE:=Lib.hid HSE.bel;clear HSE;go_wp2;refine bodyPost_ret (v:=.tuple #[.agg #[.int .i64 k,.int .u64 e,.int .u64 s',.int .i64 c,.slice sga sgn sgc,.string so,.slice nd.a nd.n nd.c,.slice none 0 0,.slice none 0 0,.slice none 0 0,.slice zsa zsn zsc],.int .i64 ae]) (by simp [results,Tryz.results64,go_sem,q0,q1,q2,q3,q4,q5,q6,q7,q8,q9,q10]) rfl (NamedPost.err ⟨k,e,s',c,⟨sga,sgn,sgc⟩,so,nd,⟨none,0,0⟩,⟨none,0,0⟩,⟨none,0,0⟩,⟨zsa,zsn,zsc⟩⟩ HZE.out hae rfl ?_);exact ((((((((((HBE.out.setCell (Nat.le_add_right _ 2) _).setCell (Nat.le_add_right _ 2) _).setCell (Nat.le_add_right _ 2) _).setCell (Nat.le_add_right _ 2) _).setCell (Nat.le_add_right _ 2) _).setCell (Nat.le_add_right _ 2) _).setCell (Nat.le_add_right _ 2) _).setCell (Nat.le_add_right _ 2) _).setCell (Nat.le_add_right _ 2) _).setCell (Nat.le_add_right _ 2) _).setCell (Nat.le_add_right _ 2) _
   ·obtain rfl:q=nn:=by omega
    obtain ⟨hu1,hu2⟩:=HUP.out.all (by rw [HNL.out];exact Nat.le_refl _);have HZ9:Hid (Z=symsI m.sg m.zs V tt so Ls):=Lib.hid (by rw [HZ8.out];unfold needsI;rw [hu1,hu2,if_neg (by simp)]);clear hu1 hu2 HUP HNW hlt;go_wp2;go_meet
    case rel=>exact ⟨nd,Ls,HNS.out,HKW.out,HOW.out,HLL.out,HZ9.out⟩
 case rest=>
  obtain ⟨nd,Ls,hst,hkp,hown,hLl,hz⟩:=hcut;rename_i KK hKK;refine hKK _ _ ?_;have hsl:=hst.res.lt;refine named_24x _ rfl B m w k e s' c sga sgn sgc zsa zsn zsc gd ga na nc V tt ta tc Z ⟨hB,hl,HX.out,HVL.out,htc1,htc2⟩ rfl rfl rfl rfl nn so nd Ls wa wc hst (fun wx h=>by
   obtain ⟨a1,a2,-,a4⟩:=HKP6.out wx (hkp.trans h);exact ⟨a1,a2,a4,own_kp h hown (by omega)⟩) hszc hsl hLl hz
theorem named_15x (x:List Value) (hx:x.length=231) (B:Nat) (m:Im) (w:World) (k e s' c:Int) (sga:Option Addr) (sgn sgc:Nat) (zsa:Option Addr) (zsn zsc:Nat) (gd ga:Nat) (na:Option Addr) (nc:Nat) (V tt:List Int) (ta:Option Addr) (tc:Nat) (Z:Int×Na) (hc:NCtx B w m ⟨k,e,s',c,⟨sga,sgn,sgc⟩,.empty,Sh.zero,Sh.zero,Sh.zero,Sh.zero,⟨zsa,zsn,zsc⟩⟩ V tt tc) (h2:x.getD 2 undef=.pointer (some ⟨w.heap.size,0,none⟩)) (h4:x.getD 4 undef=.pointer (some ⟨w.heap.size+1+1,0,none⟩)) (h8:x.getD 8 undef=.pointer (some ⟨gd,0,none⟩)) (h10:x.getD 10 undef=.slice ta tt.length tc) (nn:Nat) (N:List Int) (so:ByteArray) (wa:World) (hst:NSt w wa ⟨k,e,s',c,⟨sga,sgn,sgc⟩,so,⟨none,0,0⟩,⟨none,0,0⟩,⟨none,0,0⟩,⟨none,0,0⟩,⟨zsa,zsn,zsc⟩⟩) (hkp6:∀wx,Kp w.heap.size wa wx→Blk wx gd #[.slice na nn nc,.slice (some ⟨ga,0,none⟩) 7 7] 91∧Nus wx wx.heap.size (some ⟨ga,0,none⟩) 7 V∧Nus wx wx.heap.size na nn N∧Bys wx wx.heap.size ta tt.length tt) (hnl:N.length=nn) (hnn2:nn≤1000001) (hz:Z=needsI m.sg m.zs V N tt so) :
 Code.wp Tryz.prog (restAt 15 (Tryz.f64.body.getD .skip)) (bodyPost Tryz.prog Tryz.f64 (NamedPost ⟨k,e,s',c,⟨sga,sgn,sgc⟩,.empty,Sh.zero,Sh.zero,Sh.zero,Sh.zero,⟨zsa,zsn,zsc⟩⟩ Z w)) ⟨x.toArray,[]⟩ wa:=by
 rw [frameOf_list x,hx];exact named_15 (fun t=>x.getD t undef) B m w k e s' c sga sgn sgc zsa zsn zsc gd ga na nc V tt ta tc Z hc h2 h4 h8 h10 nn N so wa hst hkp6 hnl hnn2 hz
theorem rnamed_any (B:Nat) (x:Iv) (m:Im) (s:Sg) (w:World) (h:x.Is w B m) (hB:B≤w.heap.size) (hl:m.zs.length≤1000000) (hs:s.Ok)
 (hso:x.so=.empty) (hnd:x.nd=Sh.zero) (hnm:x.nm=Sh.zero) (hsy:x.sy=Sh.zero) (hrl:x.rl=Sh.zero) :
 Calls Tryz.prog 64 #[x.val,s.val] w (NamedPost x (namedI m.sg m.zs s) w):=by
 obtain ⟨k,e,s',c,⟨sga,sgn,sgc⟩,so,nd,nm,sy,rl,⟨zsa,zsn,zsc⟩⟩:=x;simp only at hso hnd hnm hsy hrl;subst hso hnd hnm hsy hrl;obtain ⟨-,-,⟨ot0,ot1⟩,-,⟨fi0,fi1⟩,-,-⟩:=hs;obtain ⟨ty,fl,ot,va,fi,me,al⟩:=s;simp only at ot0 ot1 fi0 fi1;have HX:=Lib.hid h;have HCU:Hid (∀w1,Below w.heap.size w w1→Calls Tryz.prog 108 #[.slice zsa zsn zsc,.int .u64 ot,.int .u64 fi] w1 (CutPost (cutI m.zs ot fi) w1)):=Lib.hid (fun w1 h1=>
  rcutI_any B zsa zsn zsc m.zs ot fi w1 (h.zs.below (h1.mono hB)) (Nat.le_trans hB h1.size) (by have:=h.zs.1;simp only at this;omega) ot0 ot1 fi0 fi1)
 have HCB:=Lib.hid (cutI_bd h.zs.2.1 ot fi);have HCM:=Lib.hid (cutI_max m.zs ot fi);obtain ⟨Z,hZ⟩:∃Z,namedI m.sg m.zs ⟨ty,fl,ot,va,fi,me,al⟩=Z:=⟨_,rfl⟩
 have HZ:Hid (Z=if (getDy (cutI m.zs ot fi).2).1≠0 then ((getDy (cutI m.zs ot fi).2).1,na0) else entsI m.sg m.zs (getDy (cutI m.zs ot fi).2).2.v (getDy (cutI m.zs ot fi).2).2.nd):=Lib.hid (by rw [←hZ];rfl);rw [hZ];clear h hZ;generalize cutI m.zs ot fi=C at HCU HCB HCM HZ;obtain ⟨ce,cs⟩:=C;simp only at HCB HCM HZ;have HB0:Hid (∀o1 o2 o3,Below w.heap.size w (((w.alloc o1).alloc o2).alloc o3)):=Lib.hid (fun o1 o2 o3=>(((Below.refl _ _).alloc (Nat.le_refl _) o1).alloc (by simp) o2).alloc (by simp;omega) o3);unfold Iv.val Sg.val;simp only [Sh.zero];have HS0:Hid (NSt w (((w.alloc (.cells #[.int .i64 k,.int .u64 e,.int .u64 s',.int .i64 c,.slice sga sgn sgc,.string ByteArray.empty,.slice none 0 0,.slice none 0 0,.slice none 0 0,.slice none 0 0,.slice zsa zsn zsc] 38)).alloc (.cells #[.int .u32 ty,.int .u32 fl,.int .u64 ot,.int .u64 va,.int .u64 fi,.int .u64 me,.int .u64 al] 65)).alloc (.cells #[.int .i64 0,.int .u64 0,.int .u64 0,.int .i64 0,.slice none 0 0,.string ⟨#[]⟩,.slice none 0 0,.slice none 0 0,.slice none 0 0,.slice none 0 0,.slice none 0 0] 38)) ⟨k,e,s',c,⟨sga,sgn,sgc⟩,.empty,⟨none,0,0⟩,⟨none,0,0⟩,⟨none,0,0⟩,⟨none,0,0⟩,⟨zsa,zsn,zsc⟩⟩):=Lib.hid (by
  refine ⟨((Blk.new w _ _).alloc _).alloc _,?_,HB0.out _ _ _⟩;have:=Blk.new ((w.alloc (.cells #[.int .i64 k,.int .u64 e,.int .u64 s',.int .i64 c,.slice sga sgn sgc,.string ByteArray.empty,.slice none 0 0,.slice none 0 0,.slice none 0 0,.slice none 0 0,.slice zsa zsn zsc] 38)).alloc (.cells #[.int .u32 ty,.int .u32 fl,.int .u64 ot,.int .u64 va,.int .u64 fi,.int .u64 me,.int .u64 al] 65)) iv0.cells 38;rw [World.size_alloc,World.size_alloc] at this;exact this)
 go_enter Tryz.func64,Tryz.ntmps64
 go_wp2_with fail;refine (HCU.out _ (HB0.out _ _ _)).mono ?_;rintro r pw1 ⟨⟨u,rfl,ho⟩,hb1⟩;have HS1:=Lib.hid (HS0.out.later hb1);obtain ⟨ba,bc,rfl,-,-⟩:=own_slice9 ho;have hg:=rget5_new pw1.heap.size ba cs.length bc cs pw1 (Bys.own HCB.out ho) (Nat.le_refl _) (by have:=HCM.out;omega);have hgn:=getDy_nd cs;generalize getDy cs=D at hg HZ hgn;obtain ⟨de,⟨N,V,dseen⟩⟩:=D;simp only at hg HZ hgn;have HGN:Hid (N.length≤1000001):=Lib.hid (by have:=HCM.out;omega);clear hgn;have HG:=Lib.hid hg;clear ho hb1 hg HS0 HB0 HCU HCB HCM;go_wp2_with fail;refine HG.out.mono ?_;rintro r pw2 ⟨⟨na,nn,nc,ga,rfl,hN,hV,hnn,hgaN,hnaN⟩,hb2⟩;have HGA:=Lib.hid (show ga≠w.heap.size by have:=HS1.out.box.lt;omega);have HNA:Hid (0<nn→∃b,na=some ⟨b,0,none⟩∧b≠w.heap.size):=Lib.hid (fun h=>by
  obtain ⟨b,e1,e2⟩:=hnaN h;exact ⟨b,e1,by have:=HS1.out.box.lt;omega⟩)
 clear hgaN hnaN;have HS2:=Lib.hid (HS1.out.later hb2);have HV2:=Lib.hid hV;have HN2:=Lib.hid hN;have hg2:w.heap.size<pw2.heap.size:=HS2.out.box.lt;have HSA:Hid (∀o,NSt w (pw2.alloc o) ⟨k,e,s',c,⟨sga,sgn,sgc⟩,.empty,⟨none,0,0⟩,⟨none,0,0⟩,⟨none,0,0⟩,⟨none,0,0⟩,⟨zsa,zsn,zsc⟩⟩):=Lib.hid (fun o=>HS2.out.later ((Below.refl _ _).alloc (Nat.le_refl _) o));clear hN hV hb2 HG HS1;by_cases hde:de=0
 ·subst hde;have HZ2:Hid (Z=entsI m.sg m.zs V N):=Lib.hid (by rw [HZ.out,if_neg (by simp)]);clear HZ;obtain ⟨gd,hgd⟩:∃gd,pw2.heap.size=gd:=⟨_,rfl⟩
  obtain ⟨W,hW⟩:∃W,pw2.alloc (.cells #[.slice na nn nc,.slice (some ⟨ga,0,none⟩) 7 7] 91)=W:=⟨_,rfl⟩
  have HNS:Hid (∀w',Stays W.drew w'→NSt w w' ⟨k,e,s',c,⟨sga,sgn,sgc⟩,.empty,⟨none,0,0⟩,⟨none,0,0⟩,⟨none,0,0⟩,⟨none,0,0⟩,⟨zsa,zsn,zsc⟩⟩):=Lib.hid (fun w' h=>by
   have h1:=HSA.out (.cells #[.slice na nn nc,.slice (some ⟨ga,0,none⟩) 7 7] 91);rw [hW] at h1;exact h1.later ((Below.refl _ _).drew.trans h))
  have HGD:Hid (∀w',Stays W.drew w'→w'.cell? ⟨gd,1,none⟩=some (.slice (some ⟨ga,0,none⟩) 7 7)):=Lib.hid (fun w' h=>by
   have h1:=Blk.new pw2 #[.slice na nn nc,.slice (some ⟨ga,0,none⟩) 7 7] 91;rw [hW,hgd] at h1;exact (h1.later ((Below.refl _ _).drew.trans h)).cell 1)
  have HGK:Hid (∀w',Stays W.drew w'→Blk w' gd #[.slice na nn nc,.slice (some ⟨ga,0,none⟩) 7 7] 91):=Lib.hid (fun w' h=>by
   have h1:=Blk.new pw2 #[.slice na nn nc,.slice (some ⟨ga,0,none⟩) 7 7] 91;rw [hW,hgd] at h1;exact h1.later ((Below.refl _ _).drew.trans h))
  have HNC:Hid (∀w',Stays W.drew w'→Nus w' w'.heap.size na nn N):=Lib.hid (fun w' h=>by
   have h0:Below pw2.heap.size pw2 W.drew:=by rw [←hW];exact ((Below.refl _ _).alloc (Nat.le_refl _) _).drew
   have h1:=h0.trans (Below.mono h h0.size);exact (HN2.out.below h1).more h1.size)
  have HVC:Hid (∀w',Stays W.drew w'→Nus w' w'.heap.size (some ⟨ga,0,none⟩) 7 V):=Lib.hid (fun w' h=>by
   have h0:Below pw2.heap.size pw2 W.drew:=by rw [←hW];exact ((Below.refl _ _).alloc (Nat.le_refl _) _).drew
   have h1:=h0.trans (Below.mono h h0.size);exact (HV2.out.below h1).more h1.size)
  have HXW:Hid (∀w',Stays W.drew w'→Iv.Is w' B ⟨k,e,s',c,⟨sga,sgn,sgc⟩,.empty,⟨none,0,0⟩,⟨none,0,0⟩,⟨none,0,0⟩,⟨none,0,0⟩,⟨zsa,zsn,zsc⟩⟩ m):=Lib.hid (fun w' h=>HX.out.below ((HNS.out w' h).bel.mono hB));have HVB:=Lib.hid HV2.out.bd;have hV7:=HV2.out.hl;have HVQ:Hid (∀i,i<7→∀w',Stays W.drew w'→w'.cell? ⟨ga,i,none⟩=some (.int .u64 (V.getD i 0))):=Lib.hid (fun i hi w' h=>(HVC.out w' h).box hi);have HVL:Hid (∀i,0≤V.getD i 0∧V.getD i 0≤18446744073709551615):=Lib.hid (fun i=>getD_u64 HVB.out i);have HZ3:Hid (Z=entsI m.sg m.zs V N):=HZ2;obtain ⟨V0,hV0⟩:∃q,V.getD 0 0=q:=⟨_,rfl⟩
  obtain ⟨V1,hV1⟩:∃q,V.getD 1 0=q:=⟨_,rfl⟩
  obtain ⟨V2,hV2⟩:∃q,V.getD 2 0=q:=⟨_,rfl⟩
  obtain ⟨V3,hV3⟩:∃q,V.getD 3 0=q:=⟨_,rfl⟩
  obtain ⟨V4,hV4⟩:∃q,V.getD 4 0=q:=⟨_,rfl⟩
  obtain ⟨V5,hV5⟩:∃q,V.getD 5 0=q:=⟨_,rfl⟩
  obtain ⟨V6,hV6⟩:∃q,V.getD 6 0=q:=⟨_,rfl⟩
  have HVQ0:=Lib.hid (hV0▸HVQ.out 0 (by decide));have HVQ1:=Lib.hid (hV1▸HVQ.out 1 (by decide));have HVQ2:=Lib.hid (hV2▸HVQ.out 2 (by decide));have HVQ3:=Lib.hid (hV3▸HVQ.out 3 (by decide));have HVQ4:=Lib.hid (hV4▸HVQ.out 4 (by decide));have HVQ5:=Lib.hid (hV5▸HVQ.out 5 (by decide));have HVQ6:=Lib.hid (hV6▸HVQ.out 6 (by decide));have HL1:=hV1▸HVL.out 1;have HL2:=hV2▸HVL.out 2;have HVE:=Lib.hid (show V.getD 0 0=V0∧V.getD 1 0=V1∧V.getD 2 0=V2∧V.getD 3 0=V3∧V.getD 4 0=V4∧V.getD 5 0=V5∧V.getD 6 0=V6 from ⟨hV0,hV1,hV2,hV3,hV4,hV5,hV6⟩);clear hV0 hV1 hV2 hV3 hV4 hV5 hV6;have HBT45:Hid (∀w',Stays W.drew w'→Calls Tryz.prog 114 #[.agg #[.int .i64 k,.int .u64 e,.int .u64 s',.int .i64 c,.slice sga sgn sgc,.string .empty,.slice none 0 0,.slice none 0 0,.slice none 0 0,.slice none 0 0,.slice zsa zsn zsc],.int .u64 V1,.int .u64 V2] w' (CutPost (bytesI m.sg m.zs V1 V2) w')):=Lib.hid (fun w' h=>
   rbytes_any B ⟨k,e,s',c,⟨sga,sgn,sgc⟩,.empty,⟨none,0,0⟩,⟨none,0,0⟩,⟨none,0,0⟩,⟨none,0,0⟩,⟨zsa,zsn,zsc⟩⟩ m _ _ w' (HXW.out w' h) (Nat.le_trans hB (HNS.out w' h).bel.size) (by omega) HL1.1 HL1.2 HL2.1 HL2.2)
  have HBB45:=Lib.hid (bytesI_bd' HX.out V1 V2);go_wp2;try rw [hW]
  try rw [hgd]
  refine wp_region_facts (by kernel_rfl) Stays Stays.refl Stays.trans 231 rfl [46,47,48,49,50,51,52,53,54,55,45,56,57,10,11] (factsOf [Is (.agg #[.int .i64 k,.int .u64 e,.int .u64 s',.int .i64 c,.slice sga sgn sgc,.string .empty,.slice none 0 0,.slice none 0 0,.slice none 0 0,.slice none 0 0,.slice zsa zsn zsc]),Is (.pointer (some ⟨gd,1,none⟩)),Is (.slice (some ⟨ga,0,none⟩) 7 7),Is (.pointer (some ⟨ga,1,none⟩)),Is (.int .u64 V1),Is (.pointer (some ⟨gd,1,none⟩)),Is (.slice (some ⟨ga,0,none⟩) 7 7),Is (.pointer (some ⟨ga,2,none⟩)),Is (.int .u64 V2),Pair9 w.heap.size (bytesI m.sg m.zs V1 (V2)).1 (bytesI m.sg m.zs V1 (V2)).2,Pair9 w.heap.size (bytesI m.sg m.zs V1 (V2)).1 (bytesI m.sg m.zs V1 (V2)).2,Row9 w.heap.size (bytesI m.sg m.zs V1 (V2)).2,Is (.int .i64 (bytesI m.sg m.zs V1 (V2)).1),Row9 w.heap.size (bytesI m.sg m.zs V1 (V2)).2,Is (.int .i64 (bytesI m.sg m.zs V1 (V2)).1)]) (by kernel_rfl) (factsOf_mono (mono_cons (Is.mono _) (mono_cons (Is.mono _) (mono_cons (Is.mono _) (mono_cons (Is.mono _) (mono_cons (Is.mono _) (mono_cons (Is.mono _) (mono_cons (Is.mono _) (mono_cons (Is.mono _) (mono_cons (Is.mono _) (mono_cons (Pair9.mono _ _ _) (mono_cons (Pair9.mono _ _ _) (mono_cons (Row9.mono _ _) (mono_cons (Is.mono _) (mono_cons (Row9.mono _ _) (mono_cons (Is.mono _) mono_nil)))))))))))))))) ?steps46 ?fin46;case fin46=>
   intro v w2 hb2 hF;have hlast:v 14=.int .i64 (bytesI m.sg m.zs V1 (V2)).1:=hF 14 (by decide);obtain ⟨ta,tc,hv,htc1,htc2,htm,htn⟩:Row9 w.heap.size (bytesI m.sg m.zs V1 (V2)).2 (v 13) w2:=hF 13 (by decide);have HSR:=Lib.hid (HNS.out _ hb2);have HBR:=Lib.hid hb2;have HTM:=Lib.hid htm;have HTN:=Lib.hid htn;have HZ4:Hid (Z=if (bytesI m.sg m.zs V1 V2).1≠0 then ((bytesI m.sg m.zs V1 V2).1,na0) else if chk (bytesI m.sg m.zs V1 V2).2≠0 then (11,na0) else sonI m.sg m.zs V N (bytesI m.sg m.zs V1 V2).2):=Lib.hid (by
    rw [HZ2.out];unfold entsI;rw [HVE.out.2.1,HVE.out.2.2.1])
   have HTX:=Lib.hid (bytesI_max m.sg m.zs V1 V2);simp only [putAll,List.set_cons_succ,List.set_cons_zero,Nat.reduceAdd,hv,hlast];generalize bytesI m.sg m.zs V1 V2=TT at HTM HZ4 htc1 HTX HTN;obtain ⟨tte,tt⟩:=TT;simp only at HTM HZ4 htc1 HTX HTN;clear hF hb2 hv hlast htm htn HZ2 HBT45 HBB45;by_cases hte:tte=0
   ·subst hte;have HZ5:Hid (Z=if chk tt≠0 then (11,na0) else sonI m.sg m.zs V N tt):=Lib.hid (by rw [HZ4.out,if_neg (by simp)]);clear HZ4;have HCK:=Lib.hid (rcheck_any _ ta tt.length tc tt w2 HTM.out (by omega));generalize chk tt=ck at HCK HZ5;go_wp2_with fail;refine HCK.out.mono ?_;rintro r w4 ⟨rfl,rfl⟩;by_cases hck:ck=0
    ·subst hck;have HZ6:Hid (Z=sonI m.sg m.zs V N tt):=Lib.hid (by rw [HZ5.out,if_neg (by simp)]);clear HZ5 HCK;have HGB:Hid (Blk w2 gd #[.slice na nn nc,.slice (some ⟨ga,0,none⟩) 7 7] 91):=Lib.hid (HGK.out _ HBR.out);have HVR:Hid (Nus w2 w2.heap.size (some ⟨ga,0,none⟩) 7 V):=Lib.hid (HVC.out _ HBR.out);have HNR:Hid (Nus w2 w2.heap.size na nn N):=Lib.hid (HNC.out _ HBR.out);have hgdn:gd≠w.heap.size:=by omega
     have HKP:Hid (∀wx,Kp w.heap.size w2 wx→Blk wx gd #[.slice na nn nc,.slice (some ⟨ga,0,none⟩) 7 7] 91∧Nus wx wx.heap.size (some ⟨ga,0,none⟩) 7 V∧Nus wx wx.heap.size na nn N∧Bys wx wx.heap.size ta tt.length tt):=Lib.hid (fun wx h=>⟨h.blks HGB.out hgdn,Nus.kp h HVR.out (fun _=>⟨ga,rfl,HGA.out⟩),Nus.kp h HNR.out HNA.out,Bys.kp h HTM.out HTN.out⟩);clear HVQ0 HVQ1 HVQ2 HVQ3 HVQ4 HVQ5 HVQ6 HVQ HVC HGD HNC HGK HNS HSA HV2 HN2;have d1:=HGB.out.cell 1;have d0:w2.cell? ⟨gd,1,none⟩=some (.slice (some ⟨ga,0,none⟩) 7 7):=d1;have hv0:w2.cell? ⟨ga,0,none⟩=some (.int .u64 V0):=by have:=HVR.out.box (i:=0) (by decide);rw [HVE.out.1] at this;exact this
     have HL0:0≤V0∧V0≤18446744073709551615:=by have:=HVL.out 0;rw [HVE.out.1] at this;exact this
     clear d1;go_upto_if 70 with fail
     go_cut [] (fun wx=>∃so:ByteArray,NSt w wx ⟨k,e,s',c,⟨sga,sgn,sgc⟩,so,⟨none,0,0⟩,⟨none,0,0⟩,⟨none,0,0⟩,⟨none,0,0⟩,⟨zsa,zsn,zsc⟩⟩∧Kp w.heap.size w2 wx∧Z=needsI m.sg m.zs V N tt so)
     case first=>
      by_cases h0:V0=0
      ·have hz:Z=needsI m.sg m.zs V N tt .empty:=by rw [HZ6.out];unfold sonI;rw [HVE.out.1,if_pos h0]
       have HZ7:=Lib.hid hz;have h0b:(V0 != 0)=false:=by rw [h0];rfl
       clear hz h0;go_wp2;go_meet
       case rel=>exact ⟨.empty,HSR.out,Kp.refl _ _,HZ7.out⟩
      ·have h0b:(V0 != 0)=true:=by rw [bne_iff_ne];exact h0
       have HZ7:Hid (Z=if (atN tt V0).1≠0 then ((atN tt V0).1,na0) else needsI m.sg m.zs V N tt (atN tt V0).2):=Lib.hid (by rw [HZ6.out];unfold sonI;rw [HVE.out.1,if_neg h0]);have HAT:=Lib.hid (ratN_any _ ta tt.length tc tt V0 w2 HTM.out htc1 htc2 HL0.1);generalize atN tt V0=A at HAT HZ7;obtain ⟨ae,an⟩:=A;simp only at HZ7;clear h0;go_wp2_with fail;refine HAT.out.mono ?_;rintro r w5 ⟨rfl,rfl⟩;by_cases hae:ae=0
       ·subst hae;have HZ8:Hid (Z=needsI m.sg m.zs V N tt an):=Lib.hid (by rw [HZ7.out,if_neg (by simp)]);have f5:=HSR.out.box.frozen 5;have c5:w2.cell? ⟨w.heap.size,5,none⟩=some (.string .empty):=HSR.out.box.cell 5;clear HZ7 HAT;go_wp2;go_meet
        case rel=>exact ⟨an,HSR.out.setSo an,(Kp.refl _ _).set 5 _,HZ8.out⟩
       ·have hz:Z=(ae,na0):=by rw [HZ7.out,if_pos hae]
        have haeb:(ae != 0)=true:=by rw [bne_iff_ne];exact hae
        have HZE:=Lib.hid hz;clear hz HZ7 HAT;have HSE:=HSR.out;obtain ⟨q0,q1,q2,q3,q4,q5,q6,q7,q8,q9,q10⟩:=Iv.cs HSE.res;obtain ⟨f0,f1,f2,f3,f4,f5,f6,f7,f8,f9,f10⟩:=Iv.fs HSE.res;obtain ⟨x0,x1,x2,x3,x4,x5,x6,x7,x8,x9,x10⟩:=Iv.cs HSE.box;have HBE:=Lib.hid HSE.bel;clear HSE;go_wp2;refine bodyPost_ret (v:=.tuple #[.agg #[.int .i64 k,.int .u64 e,.int .u64 s',.int .i64 c,.slice sga sgn sgc,.string .empty,.slice none 0 0,.slice none 0 0,.slice none 0 0,.slice none 0 0,.slice zsa zsn zsc],.int .i64 ae]) (by simp [results,Tryz.results64,go_sem,q0,q1,q2,q3,q4,q5,q6,q7,q8,q9,q10]) rfl (NamedPost.err ⟨k,e,s',c,⟨sga,sgn,sgc⟩,.empty,⟨none,0,0⟩,⟨none,0,0⟩,⟨none,0,0⟩,⟨none,0,0⟩,⟨zsa,zsn,zsc⟩⟩ HZE.out hae rfl ?_);exact ((((((((((HBE.out.setCell (Nat.le_add_right _ 2) _).setCell (Nat.le_add_right _ 2) _).setCell (Nat.le_add_right _ 2) _).setCell (Nat.le_add_right _ 2) _).setCell (Nat.le_add_right _ 2) _).setCell (Nat.le_add_right _ 2) _).setCell (Nat.le_add_right _ 2) _).setCell (Nat.le_add_right _ 2) _).setCell (Nat.le_add_right _ 2) _).setCell (Nat.le_add_right _ 2) _).setCell (Nat.le_add_right _ 2) _
     case rest=>
      obtain ⟨so,hst,hkp,hz⟩:=hcut;rename_i KK hKK;refine hKK _ _ ?_;have hnl:=HNR.out.hl;refine named_15x _ rfl B m w k e s' c sga sgn sgc zsa zsn zsc gd ga na nc V tt ta tc Z ⟨hB,hl,HX.out,HVL.out,htc1,htc2⟩ rfl rfl rfl rfl nn N so wc hst (fun wx h=>HKP.out wx (hkp.trans h)) hnl (by rw [←hnl];exact HGN.out) hz
    ·have hz:Z=(11,na0):=by rw [HZ5.out,if_pos hck]
     have hcb:(ck != 0)=true:=by simpa using hck
     have HZE:=Lib.hid hz;clear hz HZ5 HCK;have HSE:=HSR.out;obtain ⟨q0,q1,q2,q3,q4,q5,q6,q7,q8,q9,q10⟩:=Iv.cs HSE.res;obtain ⟨f0,f1,f2,f3,f4,f5,f6,f7,f8,f9,f10⟩:=Iv.fs HSE.res;obtain ⟨x0,x1,x2,x3,x4,x5,x6,x7,x8,x9,x10⟩:=Iv.cs HSE.box;have HBE:=Lib.hid HSE.bel;clear HSE;go_wp2;refine bodyPost_ret (v:=.tuple #[.agg #[.int .i64 k,.int .u64 e,.int .u64 s',.int .i64 c,.slice sga sgn sgc,.string .empty,.slice none 0 0,.slice none 0 0,.slice none 0 0,.slice none 0 0,.slice zsa zsn zsc],.int .i64 11]) (by simp [results,Tryz.results64,go_sem,q0,q1,q2,q3,q4,q5,q6,q7,q8,q9,q10]) rfl (NamedPost.err ⟨k,e,s',c,⟨sga,sgn,sgc⟩,.empty,⟨none,0,0⟩,⟨none,0,0⟩,⟨none,0,0⟩,⟨none,0,0⟩,⟨zsa,zsn,zsc⟩⟩ HZE.out (by decide) rfl ?_);exact ((((((((((HBE.out.setCell (Nat.le_add_right _ 2) _).setCell (Nat.le_add_right _ 2) _).setCell (Nat.le_add_right _ 2) _).setCell (Nat.le_add_right _ 2) _).setCell (Nat.le_add_right _ 2) _).setCell (Nat.le_add_right _ 2) _).setCell (Nat.le_add_right _ 2) _).setCell (Nat.le_add_right _ 2) _).setCell (Nat.le_add_right _ 2) _).setCell (Nat.le_add_right _ 2) _).setCell (Nat.le_add_right _ 2) _
   ·have hz:Z=(tte,na0):=by rw [HZ4.out,if_pos hte]
    have htb:(tte != 0)=true:=by simpa using hte
    have HZE:=Lib.hid hz;clear hz HZ4;have HSE:=HSR.out;obtain ⟨q0,q1,q2,q3,q4,q5,q6,q7,q8,q9,q10⟩:=Iv.cs HSE.res;obtain ⟨f0,f1,f2,f3,f4,f5,f6,f7,f8,f9,f10⟩:=Iv.fs HSE.res;obtain ⟨x0,x1,x2,x3,x4,x5,x6,x7,x8,x9,x10⟩:=Iv.cs HSE.box;have HBE:=Lib.hid HSE.bel;clear HSE;go_wp2;refine bodyPost_ret (v:=.tuple #[.agg #[.int .i64 k,.int .u64 e,.int .u64 s',.int .i64 c,.slice sga sgn sgc,.string .empty,.slice none 0 0,.slice none 0 0,.slice none 0 0,.slice none 0 0,.slice zsa zsn zsc],.int .i64 tte]) (by simp [results,Tryz.results64,go_sem,q0,q1,q2,q3,q4,q5,q6,q7,q8,q9,q10]) rfl (NamedPost.err ⟨k,e,s',c,⟨sga,sgn,sgc⟩,.empty,⟨none,0,0⟩,⟨none,0,0⟩,⟨none,0,0⟩,⟨none,0,0⟩,⟨zsa,zsn,zsc⟩⟩ HZE.out hte rfl ?_);exact ((((((((((HBE.out.setCell (Nat.le_add_right _ 2) _).setCell (Nat.le_add_right _ 2) _).setCell (Nat.le_add_right _ 2) _).setCell (Nat.le_add_right _ 2) _).setCell (Nat.le_add_right _ 2) _).setCell (Nat.le_add_right _ 2) _).setCell (Nat.le_add_right _ 2) _).setCell (Nat.le_add_right _ 2) _).setCell (Nat.le_add_right _ 2) _).setCell (Nat.le_add_right _ 2) _).setCell (Nat.le_add_right _ 2) _
  case steps46=>
   refine ⟨?_,?_,?_,?_,?_,?_,?_,?_,?_,?_,?_,?_,?_,?_,?_,trivial⟩;all_goals intro y w2 hb hy0 hp0
   all_goals have hy:=Lib.hid hy0
   all_goals have hp:=Lib.hid hp0
   all_goals have hst:=Lib.hid hb
   all_goals clear hy0 hp0 hb
   ·have e1:y 2=.pointer (some ⟨w.heap.size,0,none⟩):=hy.out 2 (by decide);obtain ⟨x0,x1,x2,x3,x4,x5,x6,x7,x8,x9,x10⟩:=Iv.cs (HNS.out _ hst.out).box;refine StepG.plain rfl fun K Q hK=>?_;obtain ⟨A,hA,v1⟩:=evA1 (n:=231) e1 (by decide);rw [hA] at hK⊢;clear hA hy hp;go_simp;exact hK _ _ ⟨Stays.refl _,by first | rfl | simp [Is] | (simp [factsOf,Is];done)⟩
   ·have e1:y 8=.pointer (some ⟨gd,0,none⟩):=hy.out 8 (by decide);refine StepG.plain rfl fun K Q hK=>?_;obtain ⟨A,hA,v1⟩:=evA1 (n:=231) e1 (by decide);rw [hA] at hK⊢;clear hA hy hp;go_simp;exact hK _ _ ⟨Stays.refl _,by first | rfl | simp [Is] | (simp [factsOf,Is];done)⟩
   ·have e1:y 47=.pointer (some ⟨gd,1,none⟩):=hp.out 1 (by decide);have hce:=(HGD.out _ hst.out)
    refine StepG.plain rfl fun K Q hK=>?_;obtain ⟨A,hA,v1⟩:=evA1 (n:=231) e1 (by decide);rw [hA] at hK⊢;clear hA hy hp;go_simp;exact hK _ _ ⟨Stays.refl _,by first | rfl | simp [Is] | (simp [factsOf,Is];done)⟩
   ·have e1:y 48=.slice (some ⟨ga,0,none⟩) 7 7:=hp.out 2 (by decide);refine StepG.plain rfl fun K Q hK=>?_;obtain ⟨A,hA,v1⟩:=evA1 (n:=231) e1 (by decide);rw [hA] at hK⊢;clear hA hy hp;go_simp;first | exact hK _ _ ⟨Stays.refl _,rfl⟩ | (rw [if_pos ⟨by omega,by omega⟩];exact hK _ _ ⟨Stays.refl _,rfl⟩)
   ·have e1:y 49=.pointer (some ⟨ga,1,none⟩):=hp.out 3 (by decide);have hce:=HVQ1.out _ hst.out;refine StepG.plain rfl fun K Q hK=>?_;obtain ⟨A,hA,v1⟩:=evA1 (n:=231) e1 (by decide);rw [hA] at hK⊢;clear hA hy hp;go_simp;exact hK _ _ ⟨Stays.refl _,by first | rfl | simp [Is] | (simp [factsOf,Is];done)⟩
   ·have e1:y 8=.pointer (some ⟨gd,0,none⟩):=hy.out 8 (by decide);refine StepG.plain rfl fun K Q hK=>?_;obtain ⟨A,hA,v1⟩:=evA1 (n:=231) e1 (by decide);rw [hA] at hK⊢;clear hA hy hp;go_simp;exact hK _ _ ⟨Stays.refl _,by first | rfl | simp [Is] | (simp [factsOf,Is];done)⟩
   ·have e1:y 51=.pointer (some ⟨gd,1,none⟩):=hp.out 5 (by decide);have hce:=(HGD.out _ hst.out)
    refine StepG.plain rfl fun K Q hK=>?_;obtain ⟨A,hA,v1⟩:=evA1 (n:=231) e1 (by decide);rw [hA] at hK⊢;clear hA hy hp;go_simp;exact hK _ _ ⟨Stays.refl _,by first | rfl | simp [Is] | (simp [factsOf,Is];done)⟩
   ·have e1:y 52=.slice (some ⟨ga,0,none⟩) 7 7:=hp.out 6 (by decide);refine StepG.plain rfl fun K Q hK=>?_;obtain ⟨A,hA,v1⟩:=evA1 (n:=231) e1 (by decide);rw [hA] at hK⊢;clear hA hy hp;go_simp;first | exact hK _ _ ⟨Stays.refl _,rfl⟩ | (rw [if_pos ⟨by omega,by omega⟩];exact hK _ _ ⟨Stays.refl _,rfl⟩)
   ·have e1:y 53=.pointer (some ⟨ga,2,none⟩):=hp.out 7 (by decide);have hce:=HVQ2.out _ hst.out;refine StepG.plain rfl fun K Q hK=>?_;obtain ⟨A,hA,v1⟩:=evA1 (n:=231) e1 (by decide);rw [hA] at hK⊢;clear hA hy hp;go_simp;exact hK _ _ ⟨Stays.refl _,by first | rfl | simp [Is] | (simp [factsOf,Is];done)⟩
   ·have e1:y 46=.agg #[.int .i64 k,.int .u64 e,.int .u64 s',.int .i64 c,.slice sga sgn sgc,.string .empty,.slice none 0 0,.slice none 0 0,.slice none 0 0,.slice none 0 0,.slice zsa zsn zsc]:=hp.out 0 (by decide);have e2:y 50=.int .u64 V1:=hp.out 4 (by decide);have e3:y 54=.int .u64 V2:=hp.out 8 (by decide);have hbt:=HBT45.out _ hst.out;refine StepG.plain rfl fun K Q hK=>?_;obtain ⟨A,hA,v1,v2,v3⟩:=evA3 (n:=231) e1 e2 e3 (by decide) (by decide) (by decide);rw [hA] at hK⊢;clear hA hy hp;go_simp;go_at_call 114
    refine hbt.mono ?_;rintro r w3 ⟨⟨u,rfl,ho⟩,hb3⟩;exact hK _ w3 ⟨hb3,u,rfl,Row9.own HBB45.out (HNS.out _ hst.out).box.lt ho⟩
   ·obtain ⟨pu,e1,hrow⟩:Pair9 w.heap.size (bytesI m.sg m.zs V1 (V2)).1 (bytesI m.sg m.zs V1 (V2)).2 (y 55) w2:=hp.out 9 (by decide);refine StepG.plain rfl fun K Q hK=>?_;obtain ⟨A,hA,v1⟩:=evA1 (n:=231) e1 (by decide);rw [hA] at hK⊢;clear hA hy hp;go_simp;exact hK _ _ ⟨Stays.refl _,pu,rfl,hrow⟩
   ·obtain ⟨pu,e1,hrow⟩:Pair9 w.heap.size (bytesI m.sg m.zs V1 (V2)).1 (bytesI m.sg m.zs V1 (V2)).2 (y 45) w2:=hp.out 10 (by decide);refine StepG.plain rfl fun K Q hK=>?_;obtain ⟨A,hA,v1⟩:=evA1 (n:=231) e1 (by decide);rw [hA] at hK⊢;clear hA hy hp;go_simp;exact hK _ _ ⟨Stays.refl _,hrow⟩
   ·obtain ⟨pu,e1,hrow⟩:Pair9 w.heap.size (bytesI m.sg m.zs V1 (V2)).1 (bytesI m.sg m.zs V1 (V2)).2 (y 45) w2:=hp.out 10 (by decide);refine StepG.plain rfl fun K Q hK=>?_;obtain ⟨A,hA,v1⟩:=evA1 (n:=231) e1 (by decide);rw [hA] at hK⊢;clear hA hy hp;go_simp;exact hK _ _ ⟨Stays.refl _,rfl⟩
   ·obtain ⟨ra,rc,e1,hr1,hr2,hrow,hrn⟩:Row9 w.heap.size (bytesI m.sg m.zs V1 (V2)).2 (y 56) w2:=hp.out 11 (by decide);refine StepG.plain rfl fun K Q hK=>?_;obtain ⟨A,hA,v1⟩:=evA1 (n:=231) e1 (by decide);rw [hA] at hK⊢;clear hA hy hp;go_simp;exact hK _ _ ⟨Stays.refl _,ra,rc,rfl,hr1,hr2,hrow,hrn⟩
   ·have e1:y 57=.int .i64 (bytesI m.sg m.zs V1 (V2)).1:=hp.out 12 (by decide);refine StepG.plain rfl fun K Q hK=>?_;obtain ⟨A,hA,v1⟩:=evA1 (n:=231) e1 (by decide);rw [hA] at hK⊢;clear hA hy hp;go_simp;exact hK _ _ ⟨Stays.refl _,by first | rfl | simp [Is] | (simp [factsOf,Is];done)⟩
 ·have hz:Z=(de,na0):=by rw [HZ.out,if_pos hde]
  have hdb:(de != 0)=true:=by simpa using hde
  have HZE:=Lib.hid hz;clear hz HZ;have HSE:=HSA.out (.cells #[.slice na nn nc,.slice (some ⟨ga,0,none⟩) 7 7] 91);obtain ⟨q0,q1,q2,q3,q4,q5,q6,q7,q8,q9,q10⟩:=Iv.cs HSE.res;obtain ⟨f0,f1,f2,f3,f4,f5,f6,f7,f8,f9,f10⟩:=Iv.fs HSE.res;obtain ⟨x0,x1,x2,x3,x4,x5,x6,x7,x8,x9,x10⟩:=Iv.cs HSE.box;have HBE:=Lib.hid HSE.bel;clear HSE;go_wp2;refine bodyPost_ret (v:=.tuple #[.agg #[.int .i64 k,.int .u64 e,.int .u64 s',.int .i64 c,.slice sga sgn sgc,.string .empty,.slice none 0 0,.slice none 0 0,.slice none 0 0,.slice none 0 0,.slice zsa zsn zsc],.int .i64 de]) (by simp [results,Tryz.results64,go_sem,q0,q1,q2,q3,q4,q5,q6,q7,q8,q9,q10]) rfl (NamedPost.err ⟨k,e,s',c,⟨sga,sgn,sgc⟩,.empty,⟨none,0,0⟩,⟨none,0,0⟩,⟨none,0,0⟩,⟨none,0,0⟩,⟨zsa,zsn,zsc⟩⟩ HZE.out hde rfl ?_);exact ((((((((((HBE.out.setCell (Nat.le_add_right _ 2) _).setCell (Nat.le_add_right _ 2) _).setCell (Nat.le_add_right _ 2) _).setCell (Nat.le_add_right _ 2) _).setCell (Nat.le_add_right _ 2) _).setCell (Nat.le_add_right _ 2) _).setCell (Nat.le_add_right _ 2) _).setCell (Nat.le_add_right _ 2) _).setCell (Nat.le_add_right _ 2) _).setCell (Nat.le_add_right _ 2) _).setCell (Nat.le_add_right _ 2) _
theorem validB_no {k c:Int} (h:¬(2≤k∧k≤4∧0≤c∧c≤64)):validB k c=false:=by
 cases hv:validB k c with
 | false=>rfl
 | true=>exact absurd (validB_iff.1 hv) h
theorem k3_valid_any (k e s c:Int) (w:World) :
 Calls Tryz.prog 132 #[headV k e s c] w fun r w'=>r=.returned (.bool (validB k c))∧Below w.heap.size w w':=by
 obtain ⟨b,hb⟩:∃b,validB k c=b:=⟨_,rfl⟩
 rw [hb];have HB:=Lib.hid hb;have hbl:∀o,Below w.heap.size w (w.alloc o):=fun o=>(Below.refl _ _).alloc (Nat.le_refl _) o;clear hb;unfold headV;by_cases h1:2≤k
 ·by_cases h2:k≤4
  ·by_cases h3:0≤c
   ·by_cases h4:c≤64
    ·go_enter Tryz.func132,Tryz.ntmps132
     go_wp2;go_ret;refine ⟨ret_bool ?_,hbl _⟩;rw [←HB.out,validB_iff.2 ⟨h1,h2,h3,h4⟩];try simp<;>omega
    ·go_enter Tryz.func132,Tryz.ntmps132
     go_wp2;go_ret;refine ⟨ret_bool ?_,hbl _⟩;rw [←HB.out,validB_no (fun h=>by omega)];try simp<;>omega
   ·go_enter Tryz.func132,Tryz.ntmps132
    go_wp2;go_ret;refine ⟨ret_bool ?_,hbl _⟩;rw [←HB.out,validB_no (fun h=>by omega)];try simp<;>omega
  ·go_enter Tryz.func132,Tryz.ntmps132
   go_wp2;go_ret;refine ⟨ret_bool ?_,hbl _⟩;rw [←HB.out,validB_no (fun h=>by omega)];try simp<;>omega
 ·go_enter Tryz.func132,Tryz.ntmps132
  go_wp2;go_ret;refine ⟨ret_bool ?_,hbl _⟩;rw [←HB.out,validB_no (fun h=>by omega)];try simp<;>omega
theorem k3_setB_noughts (x:Int) (n:Nat):setB (List.replicate n 0) 0 x n=digs x n:=by
 simp [setB,List.drop_eq_nil_of_le]
theorem k3_replicate_map (n:Nat):List.replicate n (Value.int .u8 0)=(List.replicate n (0:Int)).map (Value.int .u8):=by
 rw [List.map_replicate]
def k3_Made (zs:List Int) (u:Value) (w:World):Prop:=∃g c,u=.slice (some ⟨g,0,none⟩) zs.length c∧zs.length≤c∧(c:Int)≤9223372036854775807∧Bys w w.heap.size (some ⟨g,0,none⟩) zs.length zs
theorem k3_own_made {w:World} {base:Nat} {u:Value} {zs:List Int} (h:w.ownsRow base 5 1 u zs.length (zs.map (Value.int .u8))) (h0:0<zs.length) (hz:∀n∈zs,0≤n∧n≤255):k3_Made zs u w:=by
 obtain ⟨g,c,rfl,_⟩:=own_some h h0;have hcap:zs.length≤c∧c≤maxLen:=by
  rcases h.2 with ⟨hx,_⟩ | ⟨g,c,cur,hx,_,_,h3,h4,_⟩
  ·cases hx
  ·injection hx with _ _ hx;subst hx;exact ⟨h3,h4⟩
 exact ⟨g,c,rfl,hcap.1,by have:=hcap.2;unfold maxLen at this;omega,Bys.own hz h⟩
theorem k3_number_ok (x:Int) (n:Nat) (w:World) (h:n=1∨n=2∨n=4∨n=8) (x0:0≤x) (x1:x≤18446744073709551615) :
 Calls Tryz.prog 134 #[.int .u64 x,.int .i64 n] w fun r w'=>(∃u,r=.returned u∧k3_Made (digs x n) u w')∧Below w.heap.size w w':=by
 obtain ⟨i0,hi,hz0,hz1,hz2⟩:=info_parts info_u8;have Hn:=Lib.hid h;have hn8:n≤8:=by omega
 have HI:=Lib.hid hi;have HZ0:=Lib.hid hz0;have HZ1:=Lib.hid hz1;have HZ2:=Lib.hid hz2;clear h hi hz0 hz1 hz2;go_enter Tryz.func134,Tryz.ntmps134
 go_wp2_with (at_make;refine wpList_make_full _ rfl _ _ 22 rfl w.heap.size 5 i0 (.int .u8 0) 1 Tryz.underlying22 HI.out HZ0.out HZ1.out .i64 .i64 _ _ n rfl rfl rfl rfl ?c1 ?c2 ?c3 ?_);case c1=>rw [HZ2.out];omega
 case c2=>unfold maxLen;omega
 case c3=>exact Nat.le_refl _
 intro w1 hown hg;have hb1:Below w.heap.size w w1:=(Below.refl _ _).grown hg (Nat.le_refl _) (fun _ e=>by cases e);rw [toList_madeCells_one,k3_replicate_map] at hown;have HBY:=Lib.hid (Bys.own (zs:=List.replicate n 0) (fun m hm=>by rw [List.eq_of_mem_replicate hm];omega) hown);clear hown hg;go_wp2_with (go_at_call 129;refine (set_ok _ _ _ _ (List.replicate n 0) 0 n x _ HBY.out (Nat.le_refl _) Hn.out (by omega) (by omega) x0 x1).mono ?_);rintro e w2 ⟨rfl,hown,hb2⟩;rw [k3_setB_noughts] at hown;have hby:=Bys.own (digs_bd x n) hown;have HM:Hid (k3_Made (digs x n) (.slice (some ⟨w1.heap.size,0,none⟩) n n) w2):=Lib.hid (by
  refine ⟨w1.heap.size,n,by rw [digs_len],by rw [digs_len];exact Nat.le_refl _,by omega,?_⟩;rw [digs_len];exact hby)
 have hbb:=hb1.trans (hb2.mono hb1.size);clear hown hby hb1 hb2;go_wp2;go_ret;exact ⟨⟨_,rfl,HM.out⟩,hbb⟩
theorem k3_read_ok (B:Nat) (a:Option Addr) (len cap:Nat) (zs:List Int) (p n:Nat) (w:World) (hb:Bys w B a len zs) (h:n=1∨n=2∨n=4∨n=8) (hl:(len:Int)≤9223372036854775807) (hs:p+n≤len) :
 Calls Tryz.prog 86 #[.slice a len cap,.int .u64 p,.int .i64 n] w fun e w'=>e=.returned (.int .u64 (num (piece zs p n)))∧w=w':=by
 have HB:=Lib.hid hb;have Hn:=Lib.hid h;clear hb h;go_enter Tryz.func86,Tryz.ntmps86
 go_wp2_with (go_at_call 131;refine (get_ok _ _ _ _ _ _ _ _ HB.out Hn.out hl hs).mono ?_;rintro e w' ⟨rfl,rfl⟩);go_ret;exact ⟨rfl,rfl⟩
theorem strOfNums_eq {zs ys:List Int} (hz:∀n∈zs,0≤n∧n≤255) (hy:∀n∈ys,0≤n∧n≤255):(strOfNums zs=strOfNums ys)↔zs=ys:=
 ⟨fun h=>by rw [←bs_strOfNums hz,←bs_strOfNums hy,h],fun h=>by rw [h]⟩
theorem k3_bytesOf_nums (l:List UInt8):Lib.bytesOf (l.map fun c=>(c.toNat:Int))=l:=by
 unfold Lib.bytesOf;rw [List.map_map];conv=>rhs;rw [←List.map_id l]
 refine List.map_congr_left fun c _=>?_;simp
theorem k3_toList_inj {s t:ByteArray} (h:s.toList=t.toList):s=t:=by
 have e:∀s:ByteArray,s.toList=s.data.toList:=fun s=>by
  have:=Lib.strOfNums_toList (bs s);rw [strOfNums_bs] at this;rw [this,bs,k3_bytesOf_nums]
 rw [e,e] at h;exact ByteArray.ext (Array.ext' h)
theorem equal_any (B B':Nat) (a a':Option Addr) (len len' cap cap':Nat) (zs ys:List Int) (w:World) (hz:Bys w B a len zs) (hy:Bys w B' a' len' ys) :
 Calls Tryz.prog 88 #[.slice a len cap,.slice a' len' cap'] w fun r w'=>r=.returned (.bool (decide (zs=ys)))∧w=w':=by
 have h1:=hz.conv cap;have h2:=hy.conv cap';have HE:=Lib.hid (strOfNums_eq hz.2.1 hy.2.1);clear hz hy;go_enter Tryz.func88,Tryz.ntmps88
 have HB:Hid (((strOfNums zs).toList==(strOfNums ys).toList)=decide (zs=ys)):=Lib.hid (by
  by_cases h:zs=ys
  ·subst h;simp
  ·have h3:¬(strOfNums zs).toList=(strOfNums ys).toList:=fun e=>h (HE.out.1 (k3_toList_inj e));simp [h,h3])
 go_wp2;go_ret;exact ⟨ret_bool HB.out,rfl⟩
theorem rnumber_ok (base:Nat) (v:Value) (m:Nat) (zs:List Int) (x:Int) (n:Nat) (w:World) (ho:w.ownsRow base 5 1 v m (zs.map (Value.int .u8))) (hbase:base≤w.heap.size) (hm:m+n≤1000000) (x0:0≤x) (x1:x≤18446744073709551615) :
 Calls Tryz.prog 82 #[v,.int .u64 x,.int .i64 n] w fun r w'=>∃v',r=.returned v'∧w'.ownsRow base 5 1 v' (m+n) ((zs++digs x n).map (Value.int .u8))∧Below base w w':=by
 obtain ⟨i0,hi,hz0,hz1,hz2⟩:=info_parts info_u8;have HO:=Lib.hid ho;have HI:=Lib.hid hi;have HZ0:=Lib.hid hz0;have HZ1:=Lib.hid hz1;have HZ2:=Lib.hid hz2;have hni:(n:Int)≤1000000:=by omega
 clear ho hi hz0 hz1 hz2;go_enter Tryz.func82,Tryz.ntmps82
 go_wp2;go_loopw [0,1,7] (fun v' y i wr=>∃k:Nat,k≤n∧i=.int .i64 k∧y=.int .u64 (x / 256 ^ k)∧wr.ownsRow base 5 1 v' (m+k) ((zs++digs x k).map (Value.int .u8))∧Below base w wr) (fun _ _ i _=>n-(intOf i).toNat)
 case atStart=>exact ⟨0,Nat.zero_le _,rfl,by simp,by simpa [digs] using HO.out,Below.refl _ _⟩
 case round=>
  obtain ⟨k,hk,rfl,rfl,hown,hbel⟩:=hrel;by_cases hlt:k<n
  ·have hdv:=Lib.hid (div_step x k);have hdg:Hid (digs x (k+1)=digs x k++[x / 256 ^ k % 256]):=Lib.hid rfl;have hy0:0≤x / 256 ^ k:=Int.ediv_nonneg x0 (Int.pow_nonneg (by decide));have hy1:x / 256 ^ k≤18446744073709551615:=Int.le_trans (Int.ediv_le_self _ x0) x1;generalize x / 256 ^ k=y at hdv hdg hy0 hy1⊢;have hsz:=hbel.size;have HOWN:=Lib.hid hown;clear hown;go_wp2_with (at_builtin;refine wpList_append_own _ rfl _ _ 22 rfl base 5 i0 (.int .u8 0) 1 1 Tryz.underlying22 HI.out HZ0.out HZ1.out HZ2.out rfl (by decide) _ (m+k) _ rfl (HOWN.out.alloc _) ⟨wr.heap.size,0,none⟩ 1 1 [.int .u8 (y % 256)] rfl rfl ?c1 ?c2 ?c3 ?c4 ?c5 ?_);case c1=>exact cell_one_new _ _ _
   case c2=>intro u hu;obtain rfl:=List.mem_singleton.1 hu;rfl
   case c3=>unfold maxLen;omega
   case c4=>omega
   case c5=>simp;omega
   intro v2 w2 hown2 hg2 hnil2;have hb2:Below base w w2:=(hbel.alloc (by omega) _).grown hg2 (by simp;omega) (fun q e=>(HOWN.out.lt q e).1);have HO2:Hid (w2.ownsRow base 5 1 v2 (m+(k+1)) ((zs++digs x (k+1)).map (Value.int .u8))):=Lib.hid (by
    rw [hdg.out];simpa only [List.map_append,List.append_assoc,List.map_cons,List.map_nil,Nat.add_assoc] using hown2)
   clear hown2 hg2 hnil2 hbel;go_wp2;go_roundw
   case rel=>exact ⟨k+1,by omega,by go_num,by rw [hdv.out],HO2.out,hb2⟩
   case measure=>simp [intOf];omega
  ·obtain rfl:k=n:=by omega
   have HOW:=Lib.hid hown;clear hown;go_wp2;go_ret;exact ⟨_,rfl,HOW.out,hbel⟩
theorem rput_arg (k e s c:Int) (w:World) (h:validB k c=false) :
 Calls Tryz.prog 38 #[headV k e s c] w fun r w'=>r=.returned (.tuple #[.slice none 0 0,.int .i64 1])∧Below w.heap.size w w':=by
 have hbl:∀o,Below w.heap.size w (w.alloc o):=fun o=>(Below.refl _ _).alloc (Nat.le_refl _) o;have HN:=Lib.hid h;clear h;unfold headV;by_cases h1:k<2
 ·go_enter Tryz.func38,Tryz.ntmps38
  go_wp2;go_ret2;exact ⟨rfl,hbl _⟩
 ·by_cases h2:4<k
  ·go_enter Tryz.func38,Tryz.ntmps38
   go_wp2;go_ret2;exact ⟨rfl,hbl _⟩
  ·by_cases h3:c<0
   ·go_enter Tryz.func38,Tryz.ntmps38
    go_wp2;go_ret2;exact ⟨rfl,hbl _⟩
   ·have h4:64<c:=by
     rcases Int.lt_or_le 64 c with h | h
     ·exact h
     ·have:=(validB_iff (k:=k) (c:=c)).2 ⟨by omega,by omega,by omega,h⟩;rw [HN.out] at this;cases this
    go_enter Tryz.func38,Tryz.ntmps38
    go_wp2;go_ret2;exact ⟨rfl,hbl _⟩
theorem noughts12:digs 0 12=digs 0 8++digs 0 4:=by decide
theorem noughts6:digs 0 6=digs 0 2++(digs 0 2++digs 0 2):=by decide
theorem rput_first (k e s c:Int) (w:World) (k0:2≤k) (k1:k≤4) :
 Calls Tryz.prog 82 #[.slice (some ⟨w.heap.size+1,0,none⟩) 16 16,.int .u64 k,.int .i64 2]
  ((w.alloc (.cells #[.int .i64 k,.int .u64 e,.int .u64 s,.int .i64 c] 36)).alloc (.cells #[.int .u8 127,.int .u8 69,.int .u8 76,.int .u8 70,.int .u8 2,.int .u8 1,.int .u8 1,.int .u8 0,.int .u8 0,.int .u8 0,.int .u8 0,.int .u8 0,.int .u8 0,.int .u8 0,.int .u8 0,.int .u8 0] 5)) fun r w'=>
  ∃v',r=.returned v'∧w'.ownsRow (w.heap.size+1) 5 1 v' 18 ((hd0++digs k 2).map (Value.int .u8))∧Below w.heap.size w w'∧w.heap.size+2≤w'.heap.size∧
   w'.cell? ⟨w.heap.size,0,none⟩=some (.int .i64 k)∧w'.cell? ⟨w.heap.size,1,none⟩=some (.int .u64 e)∧w'.cell? ⟨w.heap.size,2,none⟩=some (.int .u64 s)∧w'.cell? ⟨w.heap.size,3,none⟩=some (.int .i64 c):=by
 have ho:=own_alloc (w.alloc (.cells #[.int .i64 k,.int .u64 e,.int .u64 s,.int .i64 c] 36)) (w.heap.size+1) 5 (hd0.map (Value.int .u8)) (by simp) (by decide);have hb0:=(((Below.refl w.heap.size w).alloc (Nat.le_refl _) (.cells #[.int .i64 k,.int .u64 e,.int .u64 s,.int .i64 c] 36)).alloc (by simp) (.cells (hd0.map (Value.int .u8)).toArray 5))
 have hsz:((w.alloc (.cells #[.int .i64 k,.int .u64 e,.int .u64 s,.int .i64 c] 36)).alloc (.cells (hd0.map (Value.int .u8)).toArray 5)).heap.size=w.heap.size+2:=by simp
 have q0:((w.alloc (.cells #[.int .i64 k,.int .u64 e,.int .u64 s,.int .i64 c] 36)).alloc (.cells (hd0.map (Value.int .u8)).toArray 5)).cell? ⟨w.heap.size,0,none⟩=some (.int .i64 k):=by simp [World.cell?_alloc_past,World.cell?_alloc_at]
 have q1:((w.alloc (.cells #[.int .i64 k,.int .u64 e,.int .u64 s,.int .i64 c] 36)).alloc (.cells (hd0.map (Value.int .u8)).toArray 5)).cell? ⟨w.heap.size,1,none⟩=some (.int .u64 e):=by simp [World.cell?_alloc_past,World.cell?_alloc_at]
 have q2:((w.alloc (.cells #[.int .i64 k,.int .u64 e,.int .u64 s,.int .i64 c] 36)).alloc (.cells (hd0.map (Value.int .u8)).toArray 5)).cell? ⟨w.heap.size,2,none⟩=some (.int .u64 s):=by simp [World.cell?_alloc_past,World.cell?_alloc_at]
 have q3:((w.alloc (.cells #[.int .i64 k,.int .u64 e,.int .u64 s,.int .i64 c] 36)).alloc (.cells (hd0.map (Value.int .u8)).toArray 5)).cell? ⟨w.heap.size,3,none⟩=some (.int .i64 c):=by simp [World.cell?_alloc_past,World.cell?_alloc_at]
 rw [World.size_alloc] at ho;refine (rnumber_ok (w.heap.size+1) _ 16 hd0 k 2 _ ho (by omega) (by decide) (by omega) (by omega)).mono ?_;rintro r w' ⟨v',hr,ho',hb'⟩;exact ⟨v',hr,ho',hb0.trans (hb'.mono (Nat.le_succ _)),by rw [←hsz];exact hb'.size,(hb'.cell (p:=⟨w.heap.size,0,none⟩) (Nat.lt_succ_self _)).trans q0,(hb'.cell (p:=⟨w.heap.size,1,none⟩) (Nat.lt_succ_self _)).trans q1,(hb'.cell (p:=⟨w.heap.size,2,none⟩) (Nat.lt_succ_self _)).trans q2,(hb'.cell (p:=⟨w.heap.size,3,none⟩) (Nat.lt_succ_self _)).trans q3⟩
theorem k3_rput_ok (k e s c:Int) (w:World) (h:validB k c=true) (e0:0≤e) (e1:e≤18446744073709551615) (s0:0≤s) (s1:s≤18446744073709551615) :
 Calls Tryz.prog 38 #[headV k e s c] w fun r w'=>(∃u,r=.returned (.tuple #[u,.int .i64 0])∧w'.ownsRow w.heap.size 5 1 u 64 ((enc k e s c).map (Value.int .u8)))∧Below w.heap.size w w':=by
 obtain ⟨k0,k1,c0,c1⟩:=validB_iff.1 h;clear h;unfold headV;go_enter Tryz.func38,Tryz.ntmps38
 go_wp2_with (go_at_call 82;refine (rput_first k e s c w k0 k1).mono ?_);rintro r w1 ⟨v1,rfl,ho,hb,hs,q0,q1,q2,q3⟩;have HO1:=Lib.hid ho;have HBW:=Lib.hid hb;have HS1:=Lib.hid hs;have HB1:Hid (Below (w.heap.size+1) w1 w1):=Lib.hid (Below.refl _ _);have HQ:Hid (∀w',Below (w.heap.size+1) w1 w'→w'.cell? ⟨w.heap.size,0,none⟩=some (.int .i64 k)∧w'.cell? ⟨w.heap.size,1,none⟩=some (.int .u64 e)∧w'.cell? ⟨w.heap.size,2,none⟩=some (.int .u64 s)∧w'.cell? ⟨w.heap.size,3,none⟩=some (.int .i64 c)):=Lib.hid (fun w' hb=>
  ⟨(hb.cell (p:=⟨w.heap.size,0,none⟩) (Nat.lt_succ_self _)).trans q0,(hb.cell (p:=⟨w.heap.size,1,none⟩) (Nat.lt_succ_self _)).trans q1,(hb.cell (p:=⟨w.heap.size,2,none⟩) (Nat.lt_succ_self _)).trans q2,(hb.cell (p:=⟨w.heap.size,3,none⟩) (Nat.lt_succ_self _)).trans q3⟩)
 clear ho hb hs;go_wp2_with (go_at_call 82;refine (rnumber_ok (w.heap.size+1) _ _ _ 19823 2 _ HO1.out (by have:=HS1.out;have:=HB1.out.size;omega) (by decide) (by decide) (by decide)).mono ?_);rintro r w2 ⟨v2,rfl,ho,hb⟩;have HO2:=Lib.hid ho;have HB2:=Lib.hid (HB1.out.trans hb);have ⟨q0,q1,q2,q3⟩:=HQ.out _ HB2.out;clear ho hb;go_wp2_with (go_at_call 82;refine (rnumber_ok (w.heap.size+1) _ _ _ 1 4 _ HO2.out (by have:=HS1.out;have:=HB2.out.size;omega) (by decide) (by decide) (by decide)).mono ?_);rintro r w3 ⟨v3,rfl,ho,hb⟩;have HO3:=Lib.hid ho;have HB3:=Lib.hid (HB2.out.trans hb);have ⟨q0,q1,q2,q3⟩:=HQ.out _ HB3.out;clear ho hb;go_wp2_with (go_at_call 82;refine (rnumber_ok (w.heap.size+1) _ _ _ e 8 _ HO3.out (by have:=HS1.out;have:=HB3.out.size;omega) (by decide) e0 e1).mono ?_);rintro r w4 ⟨v4,rfl,ho,hb⟩;have HO4:=Lib.hid ho;have HB4:=Lib.hid (HB3.out.trans hb);have ⟨q0,q1,q2,q3⟩:=HQ.out _ HB4.out;clear ho hb;go_wp2_with (go_at_call 82;refine (rnumber_ok (w.heap.size+1) _ _ _ s 8 _ HO4.out (by have:=HS1.out;have:=HB4.out.size;omega) (by decide) s0 s1).mono ?_);rintro r w5 ⟨v5,rfl,ho,hb⟩;have HO5:=Lib.hid ho;have HB5:=Lib.hid (HB4.out.trans hb);have ⟨q0,q1,q2,q3⟩:=HQ.out _ HB5.out;clear ho hb;go_wp2_with (go_at_call 82;refine (rnumber_ok (w.heap.size+1) _ _ _ 0 12 _ HO5.out (by have:=HS1.out;have:=HB5.out.size;omega) (by decide) (by decide) (by decide)).mono ?_);rintro r w6 ⟨v6,rfl,ho,hb⟩;have HO6:=Lib.hid ho;have HB6:=Lib.hid (HB5.out.trans hb);have ⟨q0,q1,q2,q3⟩:=HQ.out _ HB6.out;clear ho hb;go_wp2_with (go_at_call 82;refine (rnumber_ok (w.heap.size+1) _ _ _ 64 2 _ HO6.out (by have:=HS1.out;have:=HB6.out.size;omega) (by decide) (by decide) (by decide)).mono ?_);rintro r w7 ⟨v7,rfl,ho,hb⟩;have HO7:=Lib.hid ho;have HB7:=Lib.hid (HB6.out.trans hb);have ⟨q0,q1,q2,q3⟩:=HQ.out _ HB7.out;clear ho hb;go_wp2_with (go_at_call 82;refine (rnumber_ok (w.heap.size+1) _ _ _ 56 2 _ HO7.out (by have:=HS1.out;have:=HB7.out.size;omega) (by decide) (by decide) (by decide)).mono ?_);rintro r w8 ⟨v8,rfl,ho,hb⟩;have HO8:=Lib.hid ho;have HB8:=Lib.hid (HB7.out.trans hb);have ⟨q0,q1,q2,q3⟩:=HQ.out _ HB8.out;clear ho hb;go_wp2_with (go_at_call 82;refine (rnumber_ok (w.heap.size+1) _ _ _ c 2 _ HO8.out (by have:=HS1.out;have:=HB8.out.size;omega) (by decide) (by omega) (by omega)).mono ?_);rintro r w9 ⟨v9,rfl,ho,hb⟩;have HO9:=Lib.hid ho;have HB9:=Lib.hid (HB8.out.trans hb);have ⟨q0,q1,q2,q3⟩:=HQ.out _ HB9.out;clear ho hb;go_wp2_with (go_at_call 82;refine (rnumber_ok (w.heap.size+1) _ _ _ 0 6 _ HO9.out (by have:=HS1.out;have:=HB9.out.size;omega) (by decide) (by decide) (by decide)).mono ?_);rintro r w10 ⟨v10,rfl,ho,hb⟩;have HO10:=Lib.hid ho;have HB10:=Lib.hid (HB9.out.trans hb);have ⟨q0,q1,q2,q3⟩:=HQ.out _ HB10.out;clear ho hb;have HF:Hid (w10.ownsRow w.heap.size 5 1 v10 64 ((enc k e s c).map (Value.int .u8))):=Lib.hid (by
  have h1:=own_base HO10.out (Nat.le_succ w.heap.size);rw [noughts6,noughts12] at h1;simpa only [enc,List.append_assoc] using h1)
 go_wp2;go_ret2;exact ⟨⟨_,rfl,HF.out⟩,HBW.out.trans (HB10.out.mono (Nat.le_succ _))⟩
end Go.Proofs.YtclgbdfkdbbinaaGreat
