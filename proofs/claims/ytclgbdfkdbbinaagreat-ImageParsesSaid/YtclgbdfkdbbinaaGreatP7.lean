/-
  What is proved here: words and contracts, a part of those that the statement rests on (P7).
  Conditions: none but that the arguments are values of their types.
-/
import Derived.Test.YtclgbdfkdbbinaaGreatP6
import Derived.Test.YtclgbdfkdbbinaaGreatP5
import Derived.Test.YtclgbdfkdbbinaaGreatP1
set_option linter.unusedVariables false
set_option linter.unusedSimpArgs false
set_option maxRecDepth 100000
set_option maxHeartbeats 12800000
namespace Go.Proofs.YtclgbdfkdbbinaaGreat
open Go.RowKit Go.WideMaps Go.Maps
theorem anyZero_no (B:Nat) (a:Option Addr) (len cap:Nat) (L:List ByteArray) (w:World) (hs:Strs w B a len L) (hl:(len:Int)≤9223372036854775807) (hc:Clean L) :
 Calls Tryz.prog 66 #[.slice a len cap] w fun e w'=>e=.returned (.bool false)∧w=w':=by
 have HS:=Lib.hid hs;have HC:=Lib.hid hc;clear hs hc;go_enter Tryz.func66,Tryz.ntmps66
 go_wp2;go_loop [7] (fun i=>∃k:Nat,k≤len∧i=.int .i64 k) (fun i=>len-(intOf i).toNat)
 case atStart=>exact ⟨0,Nat.zero_le _,rfl⟩
 case round=>
  obtain ⟨k,hk,rfl⟩:=hrel;by_cases hlt:k<len
  ·obtain ⟨b,off,rfl,_,hcell⟩:=HS.out.2 (by omega);obtain ⟨s,hsn⟩:∃s,s=L.getD k .empty:=⟨_,rfl⟩
   have hc:=hcell k hlt;rw [←hsn] at hc;have HI:Hid (Lib.indexByte s.data.toList 0=-1):=Lib.hid (by
    have:=HC.out k (by have:=HS.out.1;omega);rw [←k2_bytesOf_bs,hsn];exact k2_idx_none (bs_bd _) this)
   clear hcell hsn;go_wp2_with (go_at_call 121;refine (k2_sidx_any _ _ _ HI.out).mono ?_;rintro e w' ⟨rfl,rfl⟩);go_round
   case rel=>exact ⟨k+1,by omega,by go_num⟩
   case measure=>simp [intOf];omega
  ·obtain rfl:k=len:=by omega
   go_wp2;go_ret;exact ⟨rfl,rfl⟩
theorem anyZero_yes (B:Nat) (a:Option Addr) (len cap:Nat) (L:List ByteArray) (w:World) (n m:Nat) (hs:Strs w B a len L) (hl:(len:Int)≤9223372036854775807) (hn:n<len) (hc:∀i,i<n→k2_NoZ (bs (nm L i))) (hm:k2_FirstZ (bs (nm L n)) m) :
 Calls Tryz.prog 66 #[.slice a len cap] w fun e w'=>e=.returned (.bool true)∧w=w':=by
 obtain ⟨b,off,rfl,_,hcell⟩:=hs.2 (by omega);have HC:=Lib.hid hc;have HL:=Lib.hid hcell;have HM:=Lib.hid hm;clear hs hc hcell hm;go_enter Tryz.func66,Tryz.ntmps66
 go_wp2;go_loop [7] (fun i=>∃k:Nat,k≤n∧i=.int .i64 k) (fun i=>len-(intOf i).toNat)
 case atStart=>exact ⟨0,Nat.zero_le _,rfl⟩
 case round=>
  obtain ⟨k,hk,rfl⟩:=hrel;have hkl:k<len:=by omega
  obtain ⟨s,hsn⟩:∃s,s=L.getD k .empty:=⟨_,rfl⟩
  have hc:=HL.out k hkl;rw [←hsn] at hc;by_cases hlt:k<n
  ·have HI:Hid (Lib.indexByte s.data.toList 0=-1):=Lib.hid (by
    rw [←k2_bytesOf_bs,hsn];exact k2_idx_none (bs_bd _) (HC.out k hlt))
   clear hsn;go_wp2_with (go_at_call 121;refine (k2_sidx_any _ _ _ HI.out).mono ?_;rintro e w' ⟨rfl,rfl⟩);go_round
   case rel=>exact ⟨k+1,by omega,by go_num⟩
   case measure=>simp [intOf];omega
  ·obtain rfl:k=n:=by omega
   have HI:Hid (Lib.indexByte s.data.toList 0=(m:Int)):=Lib.hid (by
    rw [←k2_bytesOf_bs,hsn];exact k2_idx_some (bs_bd _) HM.out)
   clear hsn;go_wp2_with (go_at_call 121;refine (k2_sidx_any _ _ _ HI.out).mono ?_;rintro e w' ⟨rfl,rfl⟩);go_ret;exact ⟨rfl,rfl⟩
theorem build_arg (B:Nat) (a:Option Addr) (len cap:Nat) (L:List ByteArray) (w:World) (n m:Nat) (hs:Strs w B a len L) (hl:(len:Int)≤9223372036854775807) (hn:n<len) (hc:∀i,i<n→k2_NoZ (bs (nm L i))) (hm:k2_FirstZ (bs (nm L n)) m) :
 Calls Tryz.prog 29 #[.slice a len cap] w fun e w'=>e=.returned (.tuple #[.slice none 0 0,.slice none 0 0,.int .i64 1])∧w=w':=by
 have HC:=Lib.hid hc;have HS:=Lib.hid hs;have HM:=Lib.hid hm;clear hs hc hm;go_enter Tryz.func29,Tryz.ntmps29
 go_wp2_with (go_at_call 66;refine (anyZero_yes _ _ _ _ _ _ _ _ HS.out hl hn HC.out HM.out).mono ?_;rintro e w' ⟨rfl,rfl⟩);go_ret3;exact ⟨rfl,rfl⟩
def BuildPost (L:List ByteArray) (w:World) (e:Ending) (w':World):Prop:=
 Below w.heap.size w w'∧
 ((65536<(tab L L.length).length∧e=.returned (.tuple #[.slice none 0 0,.slice none 0 0,.int .i64 13]))∨
  ((tab L L.length).length≤65536∧∃ta tc pa pc,e=.returned (.tuple #[.slice ta (tab L L.length).length tc,.slice pa L.length pc,.int .i64 0])∧
   w'.ownsRow w.heap.size 5 1 (.slice ta (tab L L.length).length tc) (tab L L.length).length ((tab L L.length).map (Value.int .u8))∧
   w'.ownsRow w.heap.size 24 1 (.slice pa L.length pc) L.length ((outs L L.length).map (Value.int .u64))))
theorem buildPost_ok {L:List ByteArray} {w w':World} {k:Nat} {va ua:Option Addr} {vc uc:Nat} (hk:L.length=k) (hbel:Below w.heap.size w w') (ht:(tab L k).length≤65536)
 (hv:w'.ownsRow w.heap.size 5 1 (.slice va (tab L k).length vc) (tab L k).length ((tab L k).map (Value.int .u8)))
 (hu:w'.ownsRow w.heap.size 24 1 (.slice ua k uc) k ((outs L k).map (Value.int .u64))) :
 BuildPost L w (.returned (.tuple #[.slice va (tab L k).length vc,.slice ua k uc,.int .i64 0])) w':=by
 subst hk;exact ⟨hbel,.inr ⟨ht,va,vc,ua,uc,rfl,hv,hu⟩⟩
theorem build_any (B:Nat) (a:Option Addr) (len cap:Nat) (L:List ByteArray) (w:World) (hs:Strs w B a len L) (hB:B≤w.heap.size) (hl:len≤1000000) (hsz:∀i,(nm L i).size≤maxLen) (hc:Clean L) :
 Calls Tryz.prog 29 #[.slice a len cap] w (BuildPost L w):=by
 obtain ⟨i0,hi,hz0,hz1,hz2⟩:=info_parts info_u8;obtain ⟨i1,hj,hy0,hy1,hy2⟩:=info_parts info_u64;have hli:(len:Int)≤9223372036854775807:=by omega
 have HC:=Lib.hid hc;have HS:=Lib.hid hs;have HSZ:=Lib.hid hsz;have HI:=Lib.hid hi;have HZ0:=Lib.hid hz0;have HZ1:=Lib.hid hz1;have HZ2:=Lib.hid hz2;have HJ:=Lib.hid hj;have HY0:=Lib.hid hy0;have HY1:=Lib.hid hy1;have HY2:=Lib.hid hy2;clear hs hc hsz hi hz0 hz1 hz2 hj hy0 hy1 hy2;have hmm:=@run_makeMap Tryz.prog;have HM0:Hid (((w.alloc (.cells #[.int .u8 0] 5)).alloc (.map #[] 0)).ownsMap (H:=Unit) Tryz.prog 9 (plainElem Tryz.prog 24) (w.heap.size+1) 0 (.map [])):=Lib.hid (by
  have:=World.ownsMap_made (H:=Unit) (w.alloc (.cells #[.int .u8 0] 5)) Tryz.prog 9 (plainElem Tryz.prog 24);simpa using this)
 go_enter Tryz.func29,Tryz.ntmps29
 have HK0:Hid (keyOf Tryz.prog 9 (.string ⟨#[]⟩)=some (key .empty)):=Lib.hid (key_of (s:=.empty) (by decide));have HV0:Hid (plainElem (H:=Unit) Tryz.prog 24 (.int .u64 0)=some (u64d 0,[])):=Lib.hid (plainElem_int Tryz.underlying24 (by decide));have hM:0<maxLen:=by unfold maxLen;omega
 go_wp2_with (first | (go_at_call 66;refine (anyZero_no _ _ _ _ _ _ HS.out hli HC.out).mono ?_;rintro e w' ⟨rfl,rfl⟩) | (refine wpList_insert_own _ rfl _ _ _ 125 rfl 9 24 law_str Tryz.underlying125 _ (w.heap.size+1) 0 _ rfl HM0.out hM (.string ⟨#[]⟩) (.int .u64 0) (key .empty) rfl rfl HK0.out (u64d 0) [] HV0.out ?_));intro w1 hm1 hg1;have hb1:Below w.heap.size w w1:=(((Below.refl _ _).alloc (Nat.le_refl _) _).alloc (by simp) _).grown hg1 (by simp;omega) (fun k e=>by injection e with e;omega);have ht1:w1.ownsRow w.heap.size 5 1 (.slice (some ⟨w.heap.size,0,none⟩) 1 1) 1 ((tab L 0).map (Value.int .u8)):=
  ((own_alloc w w.heap.size 5 [.int .u8 0] (Nat.le_refl _) (by decide)).alloc _).kept hg1 (.inr (by simp [Value.ownBlock]))
 have HM1:=Lib.hid hm1;have HT1:=Lib.hid ht1;clear hm1 hg1 ht1;go_wp2_with (at_make;refine wpList_make_own _ rfl _ _ 68 rfl w.heap.size 24 i1 (.int .u64 0) 1 Tryz.underlying68 HJ.out HY0.out HY1.out .i64 .i64 _ len rfl rfl rfl ?c1 ?c2 ?c3 ?_);case c1=>rw [HY2.out];omega
 case c2=>unfold maxLen;omega
 case c3=>exact hb1.size
 intro w2 hu2 hg2;have hb2:Below w.heap.size w w2:=hb1.grown hg2 hb1.size (fun _ e=>by cases e);have HT2:=Lib.hid (HT1.out.kept hg2 (.inr (by intro e;cases e)));have HM2:=Lib.hid (HM1.out.kept hg2 (by intro e;cases e));have HU2:=Lib.hid hu2;clear hu2 hg2 HM1 HT1 hb1 HM0;go_wp2;go_loopw [5,7,22] (fun v u i wr=>∃k:Nat,k≤len∧i=.int .i64 k∧wr.ownsRow w.heap.size 5 1 v (tab L k).length ((tab L k).map (Value.int .u8))∧
  wr.ownsRow w.heap.size 24 1 u k ((outs L k).map (Value.int .u64))∧(tab L k).length≤65536∧(∃D,wr.ownsMap Tryz.prog 9 (plainElem Tryz.prog 24) (w.heap.size+1) (k+1) D∧MapOk L k D)∧Below w.heap.size w wr) (fun _ _ i _=>len-(intOf i).toNat)
 case atStart=>exact ⟨0,Nat.zero_le _,rfl,HT2.out,HU2.out,by simp [tab],⟨_,HM2.out,mapOk_zero L⟩,hb2⟩
 case round=>
  obtain ⟨k,hk,rfl,hv,hu,ht,⟨D,hm,hok⟩,hbel⟩:=hrel;obtain ⟨va,vc,rfl⟩:=own_slice hv;have HV:=Lib.hid hv;have HU:=Lib.hid hu;have HM:=Lib.hid hm;have HOK:=Lib.hid hok;have HT:=Lib.hid ht;clear hv hu hm hok ht;by_cases hlt:k<len
  ·obtain ⟨b,off,rfl,hbB,hcell⟩:=HS.out.2 (by omega);obtain ⟨s,hsn⟩:∃s,s=nm L k:=⟨_,rfl⟩
   have hc:wr.cell? ⟨b,off+k,none⟩=some (.string s):=by
    rw [hsn];exact (hbel.cell (p:=⟨b,off+k,none⟩) (by show b<_;omega)).trans (hcell k hlt)
   have hssz:s.size≤maxLen:=by rw [hsn];exact HSZ.out k
   have HKEY:=Lib.hid (key_of hssz);have hssi:(s.size:Int)≤9223372036854775807:=by unfold maxLen at hssz;omega
   have HSN:=Lib.hid hsn;clear hcell hsn hssz;cases hseen:seenB L k (nm L k) with
   | true=>
     have HSEEN:=Lib.hid hseen;have hhit:Maps.has D (key s)=true:=by rw [HSN.out,(HOK.out.2 _).1];exact hseen
     clear hseen;go_wp2_with (first | (at_lookup;refine wpList_lookup_own_ok_int _ rfl _ _ 125 rfl 9 24 .u64 law_str Tryz.underlying125 Tryz.underlying24 (zero_u64 _) (w.heap.size+1) (k+1) D rfl HM.out _ _ rfl HKEY.out ?_;intro c hat hwc;rw [hhit]) | (at_builtin;refine wpList_append_own _ rfl _ _ 68 rfl w.heap.size 24 i1 (.int .u64 0) 1 8 Tryz.underlying68 HJ.out HY0.out HY1.out HY2.out rfl (by decide) _ k _ rfl (HU.out.alloc _) ⟨wr.heap.size,0,none⟩ 1 1 [.int .u64 c] rfl rfl ?c1 ?c2 ?c3 ?c4 ?c5 ?_));case c1=>exact cell_one_new _ _ _
     case c2=>intro u hu;obtain rfl:=List.mem_singleton.1 hu;rfl
     case c3=>unfold maxLen;omega
     case c4=>omega
     case c5=>have:=hbel.size;simp;omega
     intro u' w3 hu3 hg3 hnil3;have hcp:c=(pos L (k+1) (nm L k):Int):=by
      have h1:=(HOK.out.2 s).2 (HSN.out▸(seenB_iff _ _ _).1 HSEEN.out);have h2:=u64d_inj (h1.symm.trans hat);rw [h2,HSN.out,pos_stay (m:=k+1) ((seenB_iff _ _ _).1 HSEEN.out) (by omega)]
     have HU3:Hid (w3.ownsRow w.heap.size 24 1 u' (k+1) ((outs L (k+1)).map (Value.int .u64))):=Lib.hid (by
      rw [outs,List.map_append,←hcp];exact hu3)
     have HV3:Hid (w3.ownsRow w.heap.size 5 1 (.slice va (tab L (k+1)).length vc) (tab L (k+1)).length ((tab L (k+1)).map (Value.int .u8))):=Lib.hid (by
      rw [tab_seen HSEEN.out];exact (HV.out.alloc _).kept hg3 (own_apart HV.out HU.out (by decide)))
     have HM3:=Lib.hid ((HM.out.alloc (.cells #[.int .u64 c] 24)).kept hg3 (fun e=>map_apart HU.out HM.out e.symm));have hb3:Below w.heap.size w w3:=(hbel.alloc hbel.size _).grown hg3 (by have:=hbel.size;simp;omega) (fun q e=>(HU.out.lt q e).1);have HTL:Hid ((tab L k).length=(tab L (k+1)).length):=Lib.hid (by rw [tab_seen HSEEN.out]);clear hcp hu3 hg3 hnil3 hat hwc hhit;go_wp2;go_roundw
     case rel=>exact ⟨k+1,by omega,by go_num,by rw [HTL.out];exact HV3.out,HU3.out,by rw [←HTL.out];exact HT.out,⟨D,HM3.out.mono (by omega),mapOk_seen HOK.out HSEEN.out⟩,hb3⟩
     case measure=>simp [intOf];omega
   | false=>
     have HSEEN:=Lib.hid hseen;have hmiss:Maps.has D (key s)=false:=by rw [HSN.out,(HOK.out.2 _).1];exact hseen
     have HTN:=Lib.hid (tab_new hseen);have HLN:Hid ((tab L (k+1)).length=(tab L k).length+s.size+1):=Lib.hid (by
      rw [HTN.out,List.length_append,List.length_append,bs_len,HSN.out];rfl)
     have hT:=HT.out;clear hseen;by_cases hov:65536≤(tab L k).length+s.size
     ·have hovi:(65536:Int)-((tab L k).length:Int)≤(s.size:Int):=by omega
      have hlong:Hid (65536<(tab L L.length).length):=Lib.hid (by
       have h1:=tab_mono L (k:=k+1) (m:=L.length) (by have:=HS.out.1;omega);have:=HLN.out;omega)
      clear hov;go_wp2_with (at_lookup;refine wpList_lookup_own_ok_int _ rfl _ _ 125 rfl 9 24 .u64 law_str Tryz.underlying125 Tryz.underlying24 (zero_u64 _) (w.heap.size+1) (k+1) D rfl HM.out _ _ rfl HKEY.out ?_;intro c hat hwc;rw [hmiss]);go_ret3;exact ⟨hbel,.inl ⟨hlong.out,rfl⟩⟩
     ·have hovi:(s.size:Int)<(65536:Int)-((tab L k).length:Int):=by omega
      have HVAL:Hid (plainElem (H:=Unit) Tryz.prog 24 (.int .u64 ((tab L k).length:Int))=some (u64d (tab L k).length,[])):=Lib.hid (plainElem_int Tryz.underlying24 (wf_u64 hT));have hkm:k+1<maxLen:=by unfold maxLen;omega
      go_wp2_with (first | (at_lookup;refine wpList_lookup_own_ok_int _ rfl _ _ 125 rfl 9 24 .u64 law_str Tryz.underlying125 Tryz.underlying24 (zero_u64 _) (w.heap.size+1) (k+1) D rfl HM.out _ _ rfl HKEY.out ?_;intro c hat hwc;rw [hmiss]) | (at_mapUpdate;refine wpList_mapUpdate_own _ rfl _ _ _ 125 rfl 9 24 law_str Tryz.underlying125 _ (w.heap.size+1) (k+1) D rfl HM.out hkm _ _ _ rfl rfl HKEY.out _ [] HVAL.out ?_));intro w3 hm3 hg3;have hb3:Below w.heap.size w w3:=hbel.grown hg3 hbel.size (fun q e=>by injection e with e;omega);have HM3:=Lib.hid hm3;have HV3:=Lib.hid (HV.out.kept hg3 (.inr (map_apart HV.out HM.out)));have HU3:=Lib.hid (HU.out.kept hg3 (.inr (map_apart HU.out HM.out)));clear hm3 hg3 hat hwc hmiss hkm HVAL;go_wp2_with (at_builtin;refine Lib.wpList_append_own_string _ rfl _ _ 22 9 rfl w.heap.size 5 i0 Tryz.underlying22 Tryz.underlying9 HI.out HZ0.out HZ1.out HZ2.out _ (tab L k).length _ rfl HV3.out s rfl ?c1 ?c2 ?c3 ?_);case c1=>unfold maxLen;omega
      case c2=>omega
      case c3=>exact hb3.size
      intro v4 w4 hv4 hg4 hnil4;rw [bs_cells,←List.map_append] at hv4;have hb4:Below w.heap.size w w4:=hb3.grown hg4 hb3.size (fun q e=>(HV3.out.lt q e).1);have HV4:=Lib.hid hv4;have HU4:=Lib.hid (HU3.out.kept hg4 (own_apart HU3.out HV3.out (by decide)));have HM4:=Lib.hid (HM3.out.kept hg4 (fun e=>map_apart HV3.out HM3.out e.symm));obtain ⟨va4,vc4,rfl⟩:=own_slice hv4;clear hv4 hg4 hnil4;go_wp2_with (at_builtin;refine wpList_append_own _ rfl _ _ 22 rfl w.heap.size 5 i0 (.int .u8 0) 1 1 Tryz.underlying22 HI.out HZ0.out HZ1.out HZ2.out rfl (by decide) _ ((tab L k).length+s.size) _ rfl (HV4.out.alloc _) ⟨w4.heap.size,0,none⟩ 1 1 [.int .u8 0] rfl rfl ?d1 ?d2 ?d3 ?d4 ?d5 ?_);case d1=>exact cell_one_new _ _ _
      case d2=>intro u hu;obtain rfl:=List.mem_singleton.1 hu;rfl
      case d3=>unfold maxLen;omega
      case d4=>omega
      case d5=>have:=hb4.size;simp;omega
      intro v5 w5 hv5 hg5 hnil5;have hb5:Below w.heap.size w w5:=(hb4.alloc hb4.size _).grown hg5 (by have:=hb4.size;simp;omega) (fun q e=>(HV4.out.lt q e).1);have HV5:Hid (w5.ownsRow w.heap.size 5 1 v5 (tab L (k+1)).length ((tab L (k+1)).map (Value.int .u8))):=Lib.hid (by
       rw [HLN.out,HTN.out,←HSN.out,List.map_append,List.map_append];exact hv5)
      have HU5:=Lib.hid ((HU4.out.alloc (.cells #[.int .u8 0] 5)).kept hg5 (own_apart HU4.out HV4.out (by decide)));have HM5:=Lib.hid ((HM4.out.alloc (.cells #[.int .u8 0] 5)).kept hg5 (fun e=>map_apart HV4.out HM4.out e.symm));clear hv5 hg5 hnil5;go_wp2_with (at_builtin;refine wpList_append_own _ rfl _ _ 68 rfl w.heap.size 24 i1 (.int .u64 0) 1 8 Tryz.underlying68 HJ.out HY0.out HY1.out HY2.out rfl (by decide) _ k _ rfl (HU5.out.alloc _) ⟨w5.heap.size,0,none⟩ 1 1 [.int .u64 ((tab L k).length:Int)] rfl rfl ?e1 ?e2 ?e3 ?e4 ?e5 ?_);case e1=>exact cell_one_new _ _ _
      case e2=>intro u hu;obtain rfl:=List.mem_singleton.1 hu;rfl
      case e3=>unfold maxLen;omega
      case e4=>omega
      case e5=>have:=hb5.size;simp;omega
      intro u6 w6 hu6 hg6 hnil6;have hb6:Below w.heap.size w w6:=(hb5.alloc hb5.size _).grown hg6 (by have:=hb5.size;simp;omega) (fun q e=>(HU5.out.lt q e).1);have HU6:Hid (w6.ownsRow w.heap.size 24 1 u6 (k+1) ((outs L (k+1)).map (Value.int .u64))):=Lib.hid (by
       rw [outs,List.map_append,pos_new HSEEN.out];exact hu6)
      have HV6:=Lib.hid ((HV5.out.alloc (.cells #[.int .u64 ((tab L k).length:Int)] 24)).kept hg6 (own_apart HV5.out HU5.out (by decide)));have HM6:=Lib.hid ((HM5.out.alloc (.cells #[.int .u64 ((tab L k).length:Int)] 24)).kept hg6 (fun e=>map_apart HU5.out HM5.out e.symm));have HT6:Hid ((tab L (k+1)).length≤65536):=Lib.hid (by rw [HLN.out];omega);clear hu6 hg6 hnil6;go_wp2;go_roundw
      case rel=>exact ⟨k+1,by omega,by go_num,HV6.out,HU6.out,HT6.out,⟨_,by rw [←HSN.out] at *;exact HM6.out,by rw [HSN.out];exact mapOk_new HOK.out HSEEN.out⟩,hb6⟩
      case measure=>simp [intOf];omega
  ·obtain rfl:k=len:=by omega
   obtain ⟨ua,uc,rfl⟩:=own_slice HU.out;have HLL:Hid (L.length=k):=Lib.hid HS.out.1;go_wp2;go_ret3;exact buildPost_ok HLL.out hbel HT.out HV.out HU.out

end Go.Proofs.YtclgbdfkdbbinaaGreat
namespace Go.Proofs.YtclgbdfkdbbinaaGreat
open Go.RowKit
theorem info_bool:(Tryz.prog.info? 4).map (fun i=>(i.zero,i.size,i.bytes))=some (some (.bool false),1,1):=by kernel_rfl
structure GS (wr:World) (g0 gx gv gs B:Nat) (nd:Value) (st:StD):Prop where
 res:Blk wr g0 #[.slice none 0 0,.slice none 0 0] 91
 box:Blk wr gx #[nd,.slice (some ⟨gv,0,none⟩) 7 7] 91
 v:Blk wr gv (st.v.map (Value.int .u64)).toArray 24
 seen:Blk wr gs (st.seen.map Value.bool).toArray 4
 own:wr.ownsRow B 24 1 nd st.nd.length (st.nd.map (Value.int .u64))
 ok:StOk st
 bd:∀n∈st.nd,0≤n∧n≤18446744073709551615
 bv:∀n∈st.v,0≤n∧n≤18446744073709551615
 lt:g0<B∧gx<B∧gv<B∧gs<B
 ne:g0≠gx∧g0≠gv∧g0≠gs∧gx≠gv∧gx≠gs∧gv≠gs
 big:B≤wr.heap.size
theorem GS.call {wr w':World} {g0 gx gv gs B:Nat} {nd:Value} {st:StD} (h:GS wr g0 gx gv gs B nd st) (hb:Below wr.heap.size wr w'):GS w' g0 gx gv gs B nd st:=
 ⟨h.res.later hb,h.box.later hb,h.v.later hb,h.seen.later hb,own_below h.own hb,h.ok,h.bd,h.bv,h.lt,h.ne,Nat.le_trans h.big hb.size⟩
theorem GS.need {wr w':World} {g0 gx gv gs B:Nat} {nd v':Value} {st:StD} {x:Int} (h:GS wr g0 gx gv gs B nd st) (hx:0≤x∧x≤18446744073709551615) (hg:wr.grownBy w' nd.ownBlock) (ho:w'.ownsRow B 24 1 v' (st.nd.length+1) (st.nd.map (Value.int .u64)++[.int .u64 x])) :
 GS (w'.setCell ⟨gx,0,none⟩ v') g0 gx gv gs B v' ⟨st.nd++[x],st.v,st.seen⟩:=by
 obtain ⟨l0,l1,l2,l3⟩:=h.lt;obtain ⟨n0,n1,n2,n3,n4,n5⟩:=h.ne;have hr:∀g,g<B→some g≠nd.ownBlock:=fun g hlt e=>by have:=(h.own.lt g e.symm).1;omega
 refine ⟨(h.res.grown hg (hr _ l0)).setOther n0 _,?_,(h.v.grown hg (hr _ l2)).setOther (fun e=>n3 e.symm) _,(h.seen.grown hg (hr _ l3)).setOther (fun e=>n4 e.symm) _,?_,h.ok.need x,?_,h.bv,h.lt,h.ne,by rw [World.size_setCell];exact Nat.le_trans h.big hg.size⟩
 ·exact (h.box.grown hg (hr _ l1)).set 0 v'
 ·have h2:w'.ownsRow B 24 1 v' (st.nd++[x]).length ((st.nd++[x]).map (Value.int .u64)):=by simpa using ho
  exact ownsRow_setCell_below h2 l1 _
 ·intro n hn;rcases List.mem_append.1 hn with hn | hn
  ·exact h.bd n hn
  ·obtain rfl:=List.mem_singleton.1 hn;exact hx
theorem GS.put {wr:World} {g0 gx gv gs B:Nat} {nd:Value} {st:StD} {x:Int} {i:Nat} (h:GS wr g0 gx gv gs B nd st) (hx:0≤x∧x≤18446744073709551615) :
 GS ((wr.setCell ⟨gs,i,none⟩ (.bool true)).setCell ⟨gv,i,none⟩ (.int .u64 x)) g0 gx gv gs B nd ⟨st.nd,st.v.set i x,st.seen.set i true⟩:=by
 obtain ⟨l0,l1,l2,l3⟩:=h.lt;obtain ⟨n0,n1,n2,n3,n4,n5⟩:=h.ne;refine ⟨(h.res.setOther n2 _).setOther n1 _,(h.box.setOther n4 _).setOther n3 _,?_,?_,ownsRow_setCell_below (ownsRow_setCell_below h.own l3 _) l2 _,h.ok.set i x,h.bd,?_,h.lt,h.ne,by simp only [World.size_setCell];exact h.big⟩
 ·have:=(h.v.setOther (a:=⟨gs,i,none⟩) n5 (.bool true)).set i (.int .u64 x);simpa [List.map_set] using this
 ·have:=(h.seen.set i (.bool true)).setOther (a:=⟨gv,i,none⟩) (fun e=>n5 e.symm) (.int .u64 x);simpa [List.map_set] using this
 ·intro n hn;rcases List.mem_or_eq_of_mem_set hn with hn | rfl
  ·exact h.bv n hn
  ·exact hx
theorem GS.done {wr:World} {g0 gx gv gs B:Nat} {nd:Value} {st:StD} (h:GS wr g0 gx gv gs B nd st) (u v:Value) (hs:∀n∈st.v,0≤n∧n≤18446744073709551615) :
 ((wr.setCell ⟨g0,0,none⟩ u).setCell ⟨g0,1,none⟩ v).ownsRow B 24 1 nd st.nd.length (st.nd.map (Value.int .u64))∧Nus ((wr.setCell ⟨g0,0,none⟩ u).setCell ⟨g0,1,none⟩ v) ((wr.setCell ⟨g0,0,none⟩ u).setCell ⟨g0,1,none⟩ v).heap.size (some ⟨gv,0,none⟩) 7 st.v:=by
 obtain ⟨l0,l1,l2,l3⟩:=h.lt;obtain ⟨n0,n1,n2,n3,n4,n5⟩:=h.ne;refine ⟨ownsRow_setCell_below (ownsRow_setCell_below h.own l0 _) l0 _,h.ok.v,hs,fun _=>⟨gv,0,rfl,?_,fun i hi=>?_⟩⟩
 ·simp only [World.size_setCell];exact h.v.lt
 ·rw [Nat.zero_add];have hb:=((h.v.setOther (a:=⟨g0,0,none⟩) (fun e=>n1 e.symm) u).setOther (a:=⟨g0,1,none⟩) (fun e=>n1 e.symm) v)
  rw [hb.cell i];have:=h.ok.v;simp [List.getD_eq_getElem?_getD,List.getElem?_eq_getElem (show i<st.v.length by omega)]
theorem GS.vcell {wr:World} {g0 gx gv gs B:Nat} {nd:Value} {st:StD} (h:GS wr g0 gx gv gs B nd st) {i:Nat} (hi:i<7):wr.cell? ⟨gv,i,none⟩=some (.int .u64 (st.v.getD i 0))∧wr.frozen? ⟨gv,i,none⟩=false:=by
 refine ⟨?_,h.v.frozen i⟩;rw [h.v.cell i];have:=h.ok.v;simp [List.getD_eq_getElem?_getD,List.getElem?_eq_getElem (show i<st.v.length by omega)]
theorem GS.scell {wr:World} {g0 gx gv gs B:Nat} {nd:Value} {st:StD} (h:GS wr g0 gx gv gs B nd st) {i:Nat} (hi:i<7):wr.cell? ⟨gs,i,none⟩=some (.bool (st.seen.getD i false))∧wr.frozen? ⟨gs,i,none⟩=false:=by
 refine ⟨?_,h.seen.frozen i⟩;rw [h.seen.cell i];have:=h.ok.seen;simp [List.getD_eq_getElem?_getD,List.getElem?_eq_getElem (show i<st.seen.length by omega)]
def upD (t:Int) (j:Nat):Int:=match idxD t with
 | some i=>if i<j then i else -1
 | none=>-1
theorem upD_succ {t:Int} {j:Nat} (hj:j<7):upD t (j+1)=if tagsD.getD j 0=t then (j:Int) else upD t j:=by
 unfold upD;cases h:idxD t with
 | none=>
   by_cases e:tagsD.getD j 0=t
   ·have:=idxD_tag hj;rw [e,h] at this;cases this
   ·rw [if_neg e]
 | some i=>
   obtain ⟨hi,ht⟩:=idxD_lt h;by_cases e:tagsD.getD j 0=t
   ·have:=idxD_tag hj;rw [e,h] at this;injection this with this;subst this;rw [if_pos e];simp only
    rw [if_pos (by omega)]
   ·rw [if_neg e];have hne:i≠j:=fun he=>e (he▸ht);by_cases hlt:i<j
    ·simp only;rw [if_pos (by omega),if_pos hlt]
    ·simp only;rw [if_neg (by omega),if_neg hlt]
theorem upD_all (t:Int):upD t 7=match idxD t with | some i=>(i:Int) | none=>-1:=by
 unfold upD;cases h:idxD t with
 | none=>rfl
 | some i=>simp only;rw [if_pos (idxD_lt h).1]
def TellsN (B:Nat) (st:StD) (e:Int) (r:Ending) (w':World):Prop:=
 ∃na nn nc ga,r=.returned (.tuple #[.agg #[.slice na nn nc,.slice (some ⟨ga,0,none⟩) 7 7],.int .i64 e])∧Nus w' w'.heap.size na nn st.nd∧Nus w' w'.heap.size (some ⟨ga,0,none⟩) 7 st.v∧(nn:Int)≤9223372036854775807∧B≤ga∧(0<nn→∃b,na=some ⟨b,0,none⟩∧B≤b)
theorem own_ge {w:World} {base n g c:Nat} {e:TypeId} {xs:List Value} (h:w.ownsRow base e 1 (.slice (some ⟨g,0,none⟩) n c) n xs) (hn:0<n):base≤g:=by
 obtain ⟨g',c',hv,hg⟩:=own_some h hn;injection hv with hv _ _;injection hv with hv;injection hv with hv;omega
theorem rget5_new (B:Nat) (a:Option Addr) (len cap:Nat) (zs:List Int) (w:World) (hb:Bys w B a len zs) (hB:B≤w.heap.size) (hl:len≤140737488355328) :
 Calls Tryz.prog 113 #[.slice a len cap] w fun r w'=>TellsN w.heap.size (getDy zs).2 (getDy zs).1 r w'∧Below w.heap.size w w':=by
 obtain ⟨i0,hi,hz0,hz1,hz2⟩:=info_parts info_bool;have HI:=Lib.hid hi;have HZ0:=Lib.hid hz0;have HZ1:=Lib.hid hz1;have HZ2:=Lib.hid hz2;obtain ⟨i1,hj,hy0,hy1,hy2⟩:=info_parts info_u64;have HJ:=Lib.hid hj;have HY0:=Lib.hid hy0;have HY1:=Lib.hid hy1;have HY2:=Lib.hid hy2;have HZB:=Lib.hid hb.2.1;have HZL:=Lib.hid hb.1;have HBY:=Lib.hid hb;have hli:(len:Int)≤140737488355328:=by omega
 obtain ⟨R,hR⟩:∃R,getDy zs=R:=⟨_,rfl⟩
 rw [hR];have HR:=Lib.hid hR;clear hb hi hz0 hz1 hz2 hj hy0 hy1 hy2 hR;go_enter Tryz.func113,Tryz.ntmps113
 go_wp2_with fail;refine (none_any _).mono ?_;rintro r w1 ⟨⟨gv,rfl,ho⟩,hb1⟩;have HW0:Hid (Below w.heap.size w (w.alloc (.cells #[.slice none 0 0,.slice none 0 0] 91))):=Lib.hid ((Below.refl _ _).alloc (Nat.le_refl _) _);have hv:=own_whole ho;have hgv:=(ho.lt gv rfl)
 have hres:=(Blk.new w #[.slice none 0 0,.slice none 0 0] 91).later hb1;have HB1:=Lib.hid (HW0.out.trans (hb1.mono HW0.out.size));have hw1:=hb1.size;simp only [World.size_alloc] at hgv hw1;clear ho hb1;go_wp2_with (at_make;refine wpList_make_full _ rfl _ _ 200 rfl (w1.heap.size+1) 4 i0 (.bool false) 1 Tryz.underlying200 HI.out HZ0.out HZ1.out .i64 .i64 _ _ 7 rfl rfl rfl rfl ?c1 ?c2 ?c3 ?_);case c1=>rw [HZ2.out];omega
 case c2=>unfold maxLen;omega
 case c3=>simp
 intro w2 hown2 hg2;have hb2:Below w1.heap.size w1 w2:=((Below.refl _ _).alloc (Nat.le_refl _) _).grown hg2 (by simp) (fun _ e=>by cases e);rw [toList_madeCells_one] at hown2;have hsn:=own_whole hown2;have hgs:=(hown2.lt (w1.heap.size+1) rfl)
 have hbox:=(Blk.new w1 #[.slice none 0 0,.slice (some ⟨gv,0,none⟩) 7 7] 91).grown hg2 (by simp);have HGS0:Hid (GS w2 w.heap.size w1.heap.size gv (w1.heap.size+1) w2.heap.size (.slice none 0 0) stD0):=Lib.hid
  ⟨hres.later hb2,hbox,Blk.later (w:=w1) hv hb2,hsn,World.ownsRow_nil _ _ _ _,stD0_ok,fun _ h=>by simp [stD0] at h,by decide,⟨by omega,by omega,by omega,by omega⟩,⟨by omega,by omega,by omega,by omega,by omega,by omega⟩,Nat.le_refl _⟩
 have HB2:=Lib.hid (HB1.out.trans (hb2.mono HB1.out.size));obtain ⟨gx,hgx⟩:∃gx,w1.heap.size=gx:=⟨_,rfl⟩
 obtain ⟨BB,hBB⟩:∃BB,w2.heap.size=BB:=⟨_,rfl⟩
 rw [hgx,hBB] at HGS0;have hgxw:w.heap.size≤gx:=by omega
 have hgvw:w.heap.size≤gv:=by omega
 clear hown2 hg2 hb2 hsn hgs hbox hres hv hw1 hgv;simp only [hgx];go_wp2;go_loopw [6,7,8,9,10,11,12,13] (fun p _ _ _ _ _ _ _ wr=>∃(k:Nat) (nd:Value) (st:StD),16*k≤len∧st.nd.length≤k∧p=.int .u64 (16*k)∧GS wr w.heap.size gx gv (gx+1) BB nd st∧outD zs (zs.length+1-k) k st=R∧Below w.heap.size w wr) (fun p _ _ _ _ _ _ _ _=>len-(intOf p).toNat)
 case atStart=>exact ⟨0,_,stD0,Nat.zero_le _,Nat.le_refl _,rfl,HGS0.out,HR.out,HB2.out⟩
 case round=>
  obtain ⟨k,nd,st,hk,hnk,rfl,hgs,hout,hbel⟩:=hrel;have HGS:=Lib.hid hgs;have HBE:=Lib.hid hbel;have hzl:=HZL.out;have hki:16*(k:Int)≤len:=by omega
  by_cases hsh:zs.length<16*k+16
  ·have hr:=out_short (s:=st) (by omega) hsh;rw [hout] at hr;subst hr;have HIN:=Lib.hid (fun w1=>inside_no len (16*k) 16 w1 (by omega) (by omega) (by omega) (by omega) (by decide) (by decide) (by omega));clear hgs hout hbel HR;go_wp2_with (go_at_call 149;refine (HIN.out _).mono ?_;rintro e w' ⟨rfl,rfl⟩);go_wp2_with fail;refine (none_any _).mono ?_;rintro r w3 ⟨⟨gn,rfl,hno⟩,hb3⟩;have hgs3:=HGS.out.call hb3;obtain ⟨q0,q1⟩:=b2 hgs3.res;obtain ⟨f0,f1⟩:=g2 hgs3.res;have HBF:=Lib.hid (HBE.out.trans (hb3.mono HBE.out.size));have HNO:=Lib.hid hno;have HLT:=Lib.hid (show w.heap.size<wr.heap.size from HGS.out.res.lt);clear hno hb3 hgs3;go_wp2;refine bodyPost_ret (v:=.tuple #[.agg #[.slice none 0 0,.slice (some ⟨gn,0,none⟩) 7 7],.int .i64 10]) (by simp [results,Tryz.results113,go_sem,q0,q1]) rfl ⟨?_,(HBF.out.setCell (Nat.le_refl _) _).setCell (Nat.le_refl _) _⟩;exact ⟨none,0,0,gn,rfl,Nus.empty _ _ _,Nus.own (by decide) (ownsRow_setCell_below (ownsRow_setCell_below HNO.out HLT.out _) HLT.out _),by decide,Nat.le_trans (Nat.le_of_lt HLT.out) (own_ge HNO.out (by decide)),fun h=>absurd h (by omega)⟩
  ·have hrd:16*k+16≤zs.length:=by omega
   have HIN:=Lib.hid (fun w1=>inside_yes len (16*k) 16 w1 (by omega) (by omega) (by omega) (by decide) (by omega));have HBYW:=Lib.hid (HBY.out.below (hbel.mono hB));have HG1:Hid (Calls Tryz.prog 107 #[.slice a len cap,.int .u64 (16*(k:Int)),.int .i64 8] wr fun e w'=>e=.returned (.tuple #[.int .u64 (tagAt zs k),.int .i64 0])∧wr=w'):=Lib.hid (by
    have h:=rget_ok B a len cap zs (16*k) 8 wr HBYW.out (by decide) (by omega) (by omega);rw [show ((16*k:Nat):Int)=16*(k:Int) by omega] at h;exact h)
   have HG2:Hid (Calls Tryz.prog 107 #[.slice a len cap,.int .u64 (16*(k:Int)+8),.int .i64 8] wr fun e w'=>e=.returned (.tuple #[.int .u64 (valAt zs k),.int .i64 0])∧wr=w'):=Lib.hid (by
    have h:=rget_ok B a len cap zs (16*k+8) 8 wr HBYW.out (by decide) (by omega) (by omega);rw [show ((16*k+8:Nat):Int)=16*(k:Int)+8 by omega] at h;exact h)
   have hrdi:16*(k:Int)+16≤len:=by omega
   have htb:=tagAt_bd (k:=k) HZB.out hrd;have hvb:=valAt_bd (k:=k) HZB.out hrd;have HEND:=Lib.hid (fun h=>(out_end (s:=st) hrd h).symm.trans hout);have HNEED:=Lib.hid (fun h=>(out_need (s:=st) hrd h).symm.trans hout);have HFORM:=Lib.hid (fun h0 h1 hi=>(out_form (s:=st) hrd h0 h1 hi).symm.trans hout);have HOVER:=Lib.hid (fun i h0 h1 hi hs=>(out_over (i:=i) (s:=st) hrd h0 h1 hi hs).symm.trans hout);have HSET:=Lib.hid (fun i h0 h1 hi hs=>(out_set (i:=i) (s:=st) hrd h0 h1 hi hs).symm.trans hout);generalize tagAt zs k=t at HG1 htb HEND HNEED HFORM HOVER HSET;generalize valAt zs k=x at HG2 hvb HEND HNEED HFORM HOVER HSET;have HXB:=Lib.hid hvb;clear hout hbel HR;obtain ⟨p0,p1⟩:=b2 hgs.box;obtain ⟨o0,o1⟩:=g2 hgs.box;have hlx:gx<wr.heap.size:=hgs.box.lt;by_cases t0:t=0
   ·subst t0;have hend:=HEND.out rfl;obtain ⟨s1,-⟩:=hgs.scell (i:=1) (by decide);obtain ⟨s2,-⟩:=hgs.scell (i:=2) (by decide);obtain ⟨s3,-⟩:=hgs.scell (i:=3) (by decide);obtain ⟨s4,-⟩:=hgs.scell (i:=4) (by decide);obtain ⟨s5,-⟩:=hgs.scell (i:=5) (by decide);obtain ⟨s6,-⟩:=hgs.scell (i:=6) (by decide);have HGD:Hid (∀n,GS (wr.drewN n) w.heap.size gx gv (gx+1) BB nd st):=Lib.hid (fun n=>hgs.call (below_drewN (Below.refl _ _) n));have hwd:wholeD st=(st.seen.getD 1 false && (st.seen.getD 2 false && (st.seen.getD 3 false==st.seen.getD 4 false && st.seen.getD 5 false==st.seen.getD 6 false))):=rfl;generalize st.seen.getD 1 false=b1 at s1 hwd;generalize st.seen.getD 2 false=b2' at s2 hwd;generalize st.seen.getD 3 false=b3 at s3 hwd;generalize st.seen.getD 4 false=b4 at s4 hwd;generalize st.seen.getD 5 false=b5 at s5 hwd;generalize st.seen.getD 6 false=b6 at s6 hwd;clear hgs;cases b1 with
    | false=>
      rw [show wholeD st=false by rw [hwd];simp [],if_neg (by decide)] at hend;subst hend;clear HEND HNEED HFORM HOVER HSET;go_wp2_with (first | (go_at_call 149;refine (HIN.out _).mono ?_;rintro e w' ⟨rfl,rfl⟩) | (go_at_call 107;with_reducible refine HG1.out.mono ?_;rintro e w' ⟨rfl,rfl⟩) | (go_at_call 107;with_reducible refine HG2.out.mono ?_;rintro e w' ⟨rfl,rfl⟩));go_quiet (fail)
      go_wp2_with fail;refine (none_any _).mono ?_;rintro r w3 ⟨⟨gn,rfl,hno⟩,hb3⟩;have hgs3:=(HGD.out nq).call hb3;obtain ⟨q0,q1⟩:=b2 hgs3.res;obtain ⟨f0,f1⟩:=g2 hgs3.res;have HBF:=Lib.hid ((below_drewN HBE.out nq).trans (hb3.mono (below_drewN HBE.out nq).size));have HNO:=Lib.hid hno;have HLT:=Lib.hid ((HGD.out nq).res.lt);clear hno hb3 hgs3;go_wp2;refine bodyPost_ret (v:=.tuple #[.agg #[.slice none 0 0,.slice (some ⟨gn,0,none⟩) 7 7],.int .i64 11]) (by simp [results,Tryz.results113,go_sem,q0,q1]) rfl ⟨?_,(HBF.out.setCell (Nat.le_refl _) _).setCell (Nat.le_refl _) _⟩;exact ⟨none,0,0,gn,rfl,Nus.empty _ _ _,Nus.own (by decide) (ownsRow_setCell_below (ownsRow_setCell_below HNO.out HLT.out _) HLT.out _),by decide,Nat.le_trans (Nat.le_of_lt HLT.out) (own_ge HNO.out (by decide)),fun h=>absurd h (by omega)⟩
    | true=>
      cases b2' with
      | false=>
        rw [show wholeD st=false by rw [hwd];simp [],if_neg (by decide)] at hend;subst hend;clear HEND HNEED HFORM HOVER HSET;go_wp2_with (first | (go_at_call 149;refine (HIN.out _).mono ?_;rintro e w' ⟨rfl,rfl⟩) | (go_at_call 107;with_reducible refine HG1.out.mono ?_;rintro e w' ⟨rfl,rfl⟩) | (go_at_call 107;with_reducible refine HG2.out.mono ?_;rintro e w' ⟨rfl,rfl⟩));go_quiet (fail)
        go_wp2_with fail;refine (none_any _).mono ?_;rintro r w3 ⟨⟨gn,rfl,hno⟩,hb3⟩;have hgs3:=(HGD.out nq).call hb3;obtain ⟨q0,q1⟩:=b2 hgs3.res;obtain ⟨f0,f1⟩:=g2 hgs3.res;have HBF:=Lib.hid ((below_drewN HBE.out nq).trans (hb3.mono (below_drewN HBE.out nq).size));have HNO:=Lib.hid hno;have HLT:=Lib.hid ((HGD.out nq).res.lt);clear hno hb3 hgs3;go_wp2;refine bodyPost_ret (v:=.tuple #[.agg #[.slice none 0 0,.slice (some ⟨gn,0,none⟩) 7 7],.int .i64 11]) (by simp [results,Tryz.results113,go_sem,q0,q1]) rfl ⟨?_,(HBF.out.setCell (Nat.le_refl _) _).setCell (Nat.le_refl _) _⟩;exact ⟨none,0,0,gn,rfl,Nus.empty _ _ _,Nus.own (by decide) (ownsRow_setCell_below (ownsRow_setCell_below HNO.out HLT.out _) HLT.out _),by decide,Nat.le_trans (Nat.le_of_lt HLT.out) (own_ge HNO.out (by decide)),fun h=>absurd h (by omega)⟩
      | true=>
        by_cases h34:b3=b4
        ·subst h34;by_cases h56:b5=b6
         ·subst h56;rw [show wholeD st=true by rw [hwd];simp,if_pos rfl] at hend;subst hend;have HOW:=Lib.hid (HGS.out.own);obtain ⟨na,nc,rfl⟩:=own_slice HOW.out;obtain ⟨q0,q1⟩:=b2 HGS.out.res;obtain ⟨f0,f1⟩:=g2 HGS.out.res;clear HEND HNEED HFORM HOVER HSET;have n34:(b3 != b3)=false:=by simp
          have n56:(b5 != b5)=false:=by simp
          go_wp2_with (first | (go_at_call 149;refine (HIN.out _).mono ?_;rintro e w' ⟨rfl,rfl⟩) | (go_at_call 107;with_reducible refine HG1.out.mono ?_;rintro e w' ⟨rfl,rfl⟩) | (go_at_call 107;with_reducible refine HG2.out.mono ?_;rintro e w' ⟨rfl,rfl⟩));go_quiet (fail)
          go_wp2;refine bodyPost_ret (v:=.tuple #[.agg #[.slice na st.nd.length nc,.slice (some ⟨gv,0,none⟩) 7 7],.int .i64 0]) (by simp [results,Tryz.results113,go_sem,q0,q1]) rfl ⟨?_,((below_drewN HBE.out _).setCell (Nat.le_refl _) _).setCell (Nat.le_refl _) _⟩;have hd:=(HGD.out nq).done (.slice na st.nd.length nc) (.slice (some ⟨gv,0,none⟩) 7 7) HGS.out.bv;exact ⟨na,st.nd.length,nc,gv,rfl,Nus.own HGS.out.bd hd.1,hd.2,by omega,hgvw,fun h=>by
           obtain ⟨g,c,hv,hg⟩:=own_some HOW.out h;injection hv with hv _ _;exact ⟨g,hv,Nat.le_trans (Nat.le_of_lt HGS.out.lt.1) hg⟩⟩
         ·have n34:(b3 != b3)=false:=by simp
          cases b5 with
          | false=>
            cases b6 with
            | false=>exact absurd rfl h56
            | true=>
              rw [show wholeD st=false by rw [hwd];simp [h56],if_neg (by decide)] at hend;subst hend;clear HEND HNEED HFORM HOVER HSET;go_wp2_with (first | (go_at_call 149;refine (HIN.out _).mono ?_;rintro e w' ⟨rfl,rfl⟩) | (go_at_call 107;with_reducible refine HG1.out.mono ?_;rintro e w' ⟨rfl,rfl⟩) | (go_at_call 107;with_reducible refine HG2.out.mono ?_;rintro e w' ⟨rfl,rfl⟩));go_quiet (fail)
              go_wp2_with fail;refine (none_any _).mono ?_;rintro r w3 ⟨⟨gn,rfl,hno⟩,hb3⟩;have hgs3:=(HGD.out nq).call hb3;obtain ⟨q0,q1⟩:=b2 hgs3.res;obtain ⟨f0,f1⟩:=g2 hgs3.res;have HBF:=Lib.hid ((below_drewN HBE.out nq).trans (hb3.mono (below_drewN HBE.out nq).size));have HNO:=Lib.hid hno;have HLT:=Lib.hid ((HGD.out nq).res.lt);clear hno hb3 hgs3;go_wp2;refine bodyPost_ret (v:=.tuple #[.agg #[.slice none 0 0,.slice (some ⟨gn,0,none⟩) 7 7],.int .i64 11]) (by simp [results,Tryz.results113,go_sem,q0,q1]) rfl ⟨?_,(HBF.out.setCell (Nat.le_refl _) _).setCell (Nat.le_refl _) _⟩;exact ⟨none,0,0,gn,rfl,Nus.empty _ _ _,Nus.own (by decide) (ownsRow_setCell_below (ownsRow_setCell_below HNO.out HLT.out _) HLT.out _),by decide,Nat.le_trans (Nat.le_of_lt HLT.out) (own_ge HNO.out (by decide)),fun h=>absurd h (by omega)⟩
          | true=>
            cases b6 with
            | true=>exact absurd rfl h56
            | false=>
              rw [show wholeD st=false by rw [hwd];simp [h56],if_neg (by decide)] at hend;subst hend;clear HEND HNEED HFORM HOVER HSET;go_wp2_with (first | (go_at_call 149;refine (HIN.out _).mono ?_;rintro e w' ⟨rfl,rfl⟩) | (go_at_call 107;with_reducible refine HG1.out.mono ?_;rintro e w' ⟨rfl,rfl⟩) | (go_at_call 107;with_reducible refine HG2.out.mono ?_;rintro e w' ⟨rfl,rfl⟩));go_quiet (fail)
              go_wp2_with fail;refine (none_any _).mono ?_;rintro r w3 ⟨⟨gn,rfl,hno⟩,hb3⟩;have hgs3:=(HGD.out nq).call hb3;obtain ⟨q0,q1⟩:=b2 hgs3.res;obtain ⟨f0,f1⟩:=g2 hgs3.res;have HBF:=Lib.hid ((below_drewN HBE.out nq).trans (hb3.mono (below_drewN HBE.out nq).size));have HNO:=Lib.hid hno;have HLT:=Lib.hid ((HGD.out nq).res.lt);clear hno hb3 hgs3;go_wp2;refine bodyPost_ret (v:=.tuple #[.agg #[.slice none 0 0,.slice (some ⟨gn,0,none⟩) 7 7],.int .i64 11]) (by simp [results,Tryz.results113,go_sem,q0,q1]) rfl ⟨?_,(HBF.out.setCell (Nat.le_refl _) _).setCell (Nat.le_refl _) _⟩;exact ⟨none,0,0,gn,rfl,Nus.empty _ _ _,Nus.own (by decide) (ownsRow_setCell_below (ownsRow_setCell_below HNO.out HLT.out _) HLT.out _),by decide,Nat.le_trans (Nat.le_of_lt HLT.out) (own_ge HNO.out (by decide)),fun h=>absurd h (by omega)⟩
        ·have n34:(b3 != b4)=true:=by simpa using h34
         rw [show wholeD st=false by rw [hwd];simp [h34],if_neg (by decide)] at hend;subst hend;clear HEND HNEED HFORM HOVER HSET;go_wp2_with (first | (go_at_call 149;refine (HIN.out _).mono ?_;rintro e w' ⟨rfl,rfl⟩) | (go_at_call 107;with_reducible refine HG1.out.mono ?_;rintro e w' ⟨rfl,rfl⟩) | (go_at_call 107;with_reducible refine HG2.out.mono ?_;rintro e w' ⟨rfl,rfl⟩));go_quiet (fail)
         go_wp2_with fail;refine (none_any _).mono ?_;rintro r w3 ⟨⟨gn,rfl,hno⟩,hb3⟩;have hgs3:=(HGD.out nq).call hb3;obtain ⟨q0,q1⟩:=b2 hgs3.res;obtain ⟨f0,f1⟩:=g2 hgs3.res;have HBF:=Lib.hid ((below_drewN HBE.out nq).trans (hb3.mono (below_drewN HBE.out nq).size));have HNO:=Lib.hid hno;have HLT:=Lib.hid ((HGD.out nq).res.lt);clear hno hb3 hgs3;go_wp2;refine bodyPost_ret (v:=.tuple #[.agg #[.slice none 0 0,.slice (some ⟨gn,0,none⟩) 7 7],.int .i64 11]) (by simp [results,Tryz.results113,go_sem,q0,q1]) rfl ⟨?_,(HBF.out.setCell (Nat.le_refl _) _).setCell (Nat.le_refl _) _⟩;exact ⟨none,0,0,gn,rfl,Nus.empty _ _ _,Nus.own (by decide) (ownsRow_setCell_below (ownsRow_setCell_below HNO.out HLT.out _) HLT.out _),by decide,Nat.le_trans (Nat.le_of_lt HLT.out) (own_ge HNO.out (by decide)),fun h=>absurd h (by omega)⟩
   ·by_cases t1:t=1
    ·subst t1;have hn:=HNEED.out rfl;have HOWN:=Lib.hid hgs.own;have HNB:=Lib.hid (hgs.bd);clear HEND HNEED HFORM HOVER HSET hgs;go_wp2_with (first | (go_at_call 149;refine (HIN.out _).mono ?_;rintro e w' ⟨rfl,rfl⟩) | (go_at_call 107;with_reducible refine HG1.out.mono ?_;rintro e w' ⟨rfl,rfl⟩) | (go_at_call 107;with_reducible refine HG2.out.mono ?_;rintro e w' ⟨rfl,rfl⟩) | (at_builtin;refine wpList_append_own _ rfl _ _ 68 rfl BB 24 i1 (.int .u64 0) 1 8 Tryz.underlying68 HJ.out HY0.out HY1.out HY2.out rfl (by decide) _ st.nd.length _ rfl (HOWN.out.alloc _) ⟨wr.heap.size,0,none⟩ 1 1 [.int .u64 x] rfl rfl ?e1 ?e2 ?e3 ?e4 ?e5 ?_));case e1=>exact cell_one_new _ _ _
     case e2=>intro u hu;obtain rfl:=List.mem_singleton.1 hu;rfl
     case e3=>unfold maxLen;omega
     case e4=>omega
     case e5=>have:=HGS.out.big;simp;omega
     intro v4 w4 hown4 hg4 _;obtain ⟨ua4,uc4,rfl⟩:=own_slice hown4;have hga:=HGS.out.call ((Below.refl _ _).alloc (Nat.le_refl wr.heap.size) (.cells #[.int .u64 x] 24));have hbx:=hga.box.grown hg4 (fun e=>by have:=(HOWN.out.lt gx e.symm).1;have:=HGS.out.lt.2.1;omega);obtain ⟨q0,q1⟩:=b2 hbx;obtain ⟨f0,f1⟩:=g2 hbx;have HGN:=Lib.hid (hga.need HXB.out hg4 hown4);have HB4:Hid (Below w.heap.size w w4):=Lib.hid ((HBE.out.alloc HBE.out.size _).grown hg4 (by have:=HBE.out.size;simp;omega) (fun q e=>by have:=(HOWN.out.lt q e).1;have:=HGS.out.lt.1;omega));have HN:=Lib.hid hn;clear hown4 hg4 hga hbx hn p0 p1 o0 o1;go_wp2;go_roundw
     case rel=>exact ⟨k+1,_,_,by omega,by simp;omega,by go_num,HGN.out,HN.out,HB4.out.setCell hgxw _⟩
     case measure=>(simp [intOf]<;>omega)
    ·have t0':(t==0)=false:=by simpa using t0
     have t1':(t==1)=false:=by simpa using t1
     have HUP:=Lib.hid (fun j hj=>upD_succ (t:=t) (j:=j) hj);have HUA:=Lib.hid (upD_all t);have hup0:upD t 0=-1:=by unfold upD;cases idxD t<;>rfl
     have HF:=Lib.hid (HFORM.out t0 t1);have HO:=Lib.hid (fun i=>HOVER.out i t0 t1);have HS:=Lib.hid (fun i=>HSET.out i t0 t1);clear HEND HNEED HFORM HOVER HSET hgs;go_wp2_with (first | (go_at_call 149;refine (HIN.out _).mono ?_;rintro e w' ⟨rfl,rfl⟩) | (go_at_call 107;with_reducible refine HG1.out.mono ?_;rintro e w' ⟨rfl,rfl⟩) | (go_at_call 107;with_reducible refine HG2.out.mono ?_;rintro e w' ⟨rfl,rfl⟩));go_loopw [12,13] (fun kk i wx=>∃j:Nat,j≤7∧i=.int .i64 j∧kk=.int .i64 (upD t j)∧Below wr.heap.size wr wx) (fun _ i _=>7-(intOf i).toNat)
     case atStart=>exact ⟨0,Nat.zero_le _,rfl,by rw [hup0],Below.refl _ _⟩
     case round=>
      obtain ⟨j,hj,rfl,rfl,hbx⟩:=hrel;by_cases hj7:j<7
      ·have hji:(j:Int)<7:=by omega
       have HBX:=Lib.hid hbx;have hu:=HUP.out j hj7;have HU:=Lib.hid hu;clear hbx hu;go_wp2_with fail;refine (tags_any _).mono ?_;rintro r w3 ⟨rfl,hnu,hb3⟩;obtain ⟨tb,tof,htt,_,htc⟩:=hnu.hc (by decide);injection htt with htt;injection htt with ht1 ht2;subst ht1;subst ht2;have ct:=htc j hj7;rw [Nat.zero_add] at ct;have HB3:=Lib.hid (HBX.out.trans (hb3.mono HBX.out.size));clear hnu htc hb3;generalize tagsD.getD j 0=tg at ct HU;by_cases htg:tg=t
       ·subst htg;have hu:=HU.out;rw [if_pos rfl] at hu;have HU2:=Lib.hid hu;clear hu;go_wp2;go_roundw
        case rel=>exact ⟨j+1,by omega,by go_num,by rw [HU2.out],HB3.out⟩
        case measure=>(simp [intOf]<;>omega)
       ·have hu:=HU.out;rw [if_neg htg] at hu;have HU2:=Lib.hid hu;clear hu;go_wp2;go_roundw
        case rel=>exact ⟨j+1,by omega,by go_num,by rw [HU2.out],HB3.out⟩
        case measure=>(simp [intOf]<;>omega)
      ·obtain rfl:j=7:=by omega
       rw [show ((7:Nat):Int)=7 from rfl,HUA.out];have HGX:=Lib.hid (HGS.out.call hbx);have HBX:=Lib.hid (HBE.out.trans (hbx.mono HBE.out.size));clear hbx;cases hix:idxD t with
       | none=>
         have hr:=HF.out hix;subst hr;clear HF HO HS HUA HUP;go_wp2_with fail;refine (none_any _).mono ?_;rintro r w3 ⟨⟨gn,rfl,hno⟩,hb3⟩;have hgs3:=HGX.out.call hb3;obtain ⟨q0,q1⟩:=b2 hgs3.res;obtain ⟨f0,f1⟩:=g2 hgs3.res;have HBF:=Lib.hid (HBX.out.trans (hb3.mono HBX.out.size));have HNO:=Lib.hid hno;have HLT:=Lib.hid (HGX.out.res.lt);clear hno hb3 hgs3;go_wp2;refine bodyPost_ret (v:=.tuple #[.agg #[.slice none 0 0,.slice (some ⟨gn,0,none⟩) 7 7],.int .i64 11]) (by simp [results,Tryz.results113,go_sem,q0,q1]) rfl ⟨?_,(HBF.out.setCell (Nat.le_refl _) _).setCell (Nat.le_refl _) _⟩;exact ⟨none,0,0,gn,rfl,Nus.empty _ _ _,Nus.own (by decide) (ownsRow_setCell_below (ownsRow_setCell_below HNO.out HLT.out _) HLT.out _),by decide,Nat.le_trans (Nat.le_of_lt HLT.out) (own_ge HNO.out (by decide)),fun h=>absurd h (by omega)⟩
       | some i=>
         obtain ⟨hi7,-⟩:=idxD_lt hix;have hi7i:(i:Int)<7:=by omega
         obtain ⟨sc,sf⟩:=HGX.out.scell hi7;obtain ⟨q0,q1⟩:=b2 HGX.out.box;obtain ⟨vc,vf⟩:=HGX.out.vcell hi7;have hne:=HGX.out.ne;cases hsn:st.seen.getD i false with
         | true=>
           rw [hsn] at sc;have hr:=HO.out i hix hsn;subst hr;clear HF HO HS HUA HUP;go_wp2_with fail;refine (none_any _).mono ?_;rintro r w3 ⟨⟨gn,rfl,hno⟩,hb3⟩;have hgs3:=HGX.out.call hb3;obtain ⟨q0,q1⟩:=b2 hgs3.res;obtain ⟨f0,f1⟩:=g2 hgs3.res;have HBF:=Lib.hid (HBX.out.trans (hb3.mono HBX.out.size));have HNO:=Lib.hid hno;have HLT:=Lib.hid (HGX.out.res.lt);clear hno hb3 hgs3;go_wp2;refine bodyPost_ret (v:=.tuple #[.agg #[.slice none 0 0,.slice (some ⟨gn,0,none⟩) 7 7],.int .i64 12]) (by simp [results,Tryz.results113,go_sem,q0,q1]) rfl ⟨?_,(HBF.out.setCell (Nat.le_refl _) _).setCell (Nat.le_refl _) _⟩;exact ⟨none,0,0,gn,rfl,Nus.empty _ _ _,Nus.own (by decide) (ownsRow_setCell_below (ownsRow_setCell_below HNO.out HLT.out _) HLT.out _),by decide,Nat.le_trans (Nat.le_of_lt HLT.out) (own_ge HNO.out (by decide)),fun h=>absurd h (by omega)⟩
         | false=>
           rw [hsn] at sc;have HN:=Lib.hid (HS.out i hix hsn);have HGP:=Lib.hid (HGX.out.put (i:=i) HXB.out);have hb1:=b2 (HGX.out.box.setOther (a:=⟨gx+1,i,none⟩) hne.2.2.2.2.1 (.bool true));have hv1:(wr.setCell ⟨gx+1,i,none⟩ (.bool true)).cell? ⟨gv,i,none⟩=some (.int .u64 (st.v.getD i 0)):=by
            rw [World.cell?_setCell_other]
            ·exact vc
            ·intro e;injection e with e1;exact hne.2.2.2.2.2 e1.symm
           obtain ⟨r0,r1⟩:=hb1;clear HF HO HS HUA HUP hsn hix;go_wp2;go_roundw
           case rel=>exact ⟨k+1,nd,_,by omega,by show st.nd.length≤k+1;omega,by go_num,HGP.out,HN.out,(HBX.out.setCell (by show w.heap.size≤gx+1;omega) _).setCell hgvw _⟩
           case measure=>(simp [intOf]<;>omega)
end Go.Proofs.YtclgbdfkdbbinaaGreat
