/-
  What is proved here: words and contracts, a part of those that the statement rests on (C17).
  Conditions: none but that the arguments are values of their types.
-/
import Derived.Test.YtclgbdfkdbbinaaGreatC9
import Derived.Test.YtclgbdfkdbbinaaGreatC8
import Derived.Test.YtclgbdfkdbbinaaGreatC16
import Derived.Test.YtclgbdfkdbbinaaGreatC7
import Derived.Test.YtclgbdfkdbbinaaGreatC1
import Derived.Test.YtclgbdfkdbbinaaGreatC10
import Derived.Test.YtclgbdfkdbbinaaGreatC2
import Derived.Test.YtclgbdfkdbbinaaGreatC11
import Derived.Test.YtclgbdfkdbbinaaGreatC4
import Derived.BigQuiet
import Derived.Deep.QuietTactic
import Derived.Deep.Cut
import Derived.Deep.DeepCutAuto
import Derived.Laws.AppendOwnNone
set_option linter.unusedVariables false
set_option linter.unusedSimpArgs false
set_option maxRecDepth 100000
set_option maxHeartbeats 12800000
namespace Go.Proofs.YtclgbdfkdbbinaaGreat
open Go.RowKit
def validN (m:Sp):Bool:=!(m.df.any badDf) && !(m.fx.any (badFx m.df.length)) && (m.k==2 || m.k==3)
theorem valid9_any (B:Nat) (x:Spv) (m:Sp) (w:World) (h:x.Is w B m) (hB:B≤w.heap.size) (l4:m.df.length≤1000000) (l5:m.fx.length≤1000000) :
 Calls Tryz.prog 27 #[x.val] w fun r w'=>r=.returned (.bool (validN m))∧Below w.heap.size w w':=by
 obtain ⟨R,hR⟩:∃R,validN m=R:=⟨_,rfl⟩
 rw [hR];have hk:=h.k;have HDF:=Lib.hid h.df;have HFX:=Lib.hid h.fx;have hdf:=h.df.hl;have hfx:=h.fx.hl;obtain ⟨k,so,⟨nda,ndn,ndc⟩,en,⟨coa,con,coc⟩,⟨daa,dan,dac⟩,bz,⟨tla,tln,tlc⟩,tz,⟨dfa,dfn,dfc⟩,⟨fxa,fxn,fxc⟩⟩:=x;simp only at hk hdf hfx HDF HFX;have HXD:Hid (∀q,q<dfn→badDf (m.df.getD q Df.zero)=true→R=false):=Lib.hid (fun q hq h=>by rw [←hR];unfold validN;rw [any_at Df.zero (by rw [hdf];exact hq) h];rfl);have HXF:Hid (∀q,q<fxn→badFx dfn (m.fx.getD q Fx.zero)=true→R=false):=Lib.hid (fun q hq h=>by rw [←hR];unfold validN;rw [hdf,any_at Fx.zero (by rw [hfx];exact hq) h];simp);have HEN:Hid ((∀q,q<dfn→badDf (m.df.getD q Df.zero)=false)→(∀q,q<fxn→badFx dfn (m.fx.getD q Fx.zero)=false)→R=(k==2 || k==3)):=Lib.hid (fun h1 h2=>by
  rw [←hR];unfold validN;rw [hdf,any_no Df.zero (by rw [hdf];exact h1),any_no Fx.zero (by rw [hfx];exact h2),hk];rfl)
 rw [hdf] at l4;rw [hfx] at l5;have i4:(dfn:Int)≤1000000:=by omega
 have i5:(fxn:Int)≤1000000:=by omega
 have HMB:=Lib.hid (fun w1=>maybe9_any k w1);clear h hR hk hdf hfx l4 l5;unfold Spv.val;simp only
 have HBE0:Hid (Below w.heap.size w (w.alloc (.cells #[.int .i64 k,.string so,.slice nda ndn ndc,.int .u64 en,.slice coa con coc,.slice daa dan dac,.int .u64 bz,.slice tla tln tlc,.int .u64 tz,.slice dfa dfn dfc,.slice fxa fxn fxc] 47))):=Lib.hid ((Below.refl _ _).alloc (Nat.le_refl _) _);have HBX0:Hid (Blk (w.alloc (.cells #[.int .i64 k,.string so,.slice nda ndn ndc,.int .u64 en,.slice coa con coc,.slice daa dan dac,.int .u64 bz,.slice tla tln tlc,.int .u64 tz,.slice dfa dfn dfc,.slice fxa fxn fxc] 47)) w.heap.size #[.int .i64 k,.string so,.slice nda ndn ndc,.int .u64 en,.slice coa con coc,.slice daa dan dac,.int .u64 bz,.slice tla tln tlc,.int .u64 tz,.slice dfa dfn dfc,.slice fxa fxn fxc] 47):=Lib.hid (Blk.new _ _ _);go_enter Tryz.func27,Tryz.ntmps27
 go_wp2;go_loopw [10] (fun i wr=>∃q:Nat,q≤dfn∧i=.int .i64 q∧(∀j,j<q→badDf (m.df.getD j Df.zero)=false)∧Below w.heap.size w wr∧Blk wr w.heap.size #[.int .i64 k,.string so,.slice nda ndn ndc,.int .u64 en,.slice coa con coc,.slice daa dan dac,.int .u64 bz,.slice tla tln tlc,.int .u64 tz,.slice dfa dfn dfc,.slice fxa fxn fxc] 47) (fun i _=>dfn-(intOf i).toNat)
 case atStart=>exact ⟨0,Nat.zero_le _,rfl,fun j hj=>absurd hj (by omega),HBE0.out,HBX0.out⟩
 case round=>
  obtain ⟨q,hq,rfl,hno,hbel,hblk⟩:=hrel;have HB:=Lib.hid hbel;have HK:=Lib.hid hblk;have hsz:=hbel.size;by_cases hlt:q<dfn
  ·obtain ⟨b,off,hdfa,hbB,hcell⟩:=HDF.out.hc (by omega);subst hdfa;have hbw0:b<w.heap.size:=Nat.lt_of_lt_of_le hbB hB;obtain ⟨c0,c1,c2,c3⟩:=(hcell q hlt).below hbel hbw0;have hbw:b<wr.heap.size:=by omega
   have hqi:(q:Int)<dfn:=by omega
   have HX1:=Lib.hid (HXD.out q hlt);have HNX:=Lib.hid (fun h=>no_upto (P:=fun j=>badDf (m.df.getD j Df.zero)=false) hno h);have hok:=(HDF.out.okAt hlt).wh;generalize m.df.getD q Df.zero=d at c0 c1 c2 c3 HX1 HNX hok;obtain ⟨dn,dw,dof,dk⟩:=d;simp only at c0 c1 c2 c3 hok;obtain ⟨hw0,hw1⟩:=hok;have HBA:Hid (Below w.heap.size w (wr.alloc (.cells #[.string dn,.int .i64 dw,.int .u64 dof,.bool dk] 61))):=Lib.hid (hbel.alloc hsz _);have HKA:=Lib.hid (hblk.alloc (.cells #[.string dn,.int .i64 dw,.int .u64 dof,.bool dk] 61));clear hcell hno hbel hblk;by_cases hn:dw<0
   ·have HE:=Lib.hid (HX1.out (by unfold badDf;rw [decide_eq_true_eq];exact .inl hn));go_wp2;go_ret;exact ⟨by rw [HE.out];rfl,HBA.out⟩
   ·by_cases h3:3<dw
    ·have HE:=Lib.hid (HX1.out (by unfold badDf;rw [decide_eq_true_eq];exact .inr h3));go_wp2;go_ret;exact ⟨by rw [HE.out];rfl,HBA.out⟩
    ·have HN:=Lib.hid (HNX.out (by unfold badDf;rw [decide_eq_false_iff_not];simp only;omega));go_wp2;go_roundw
     case rel=>exact ⟨q+1,by omega,by go_num,HN.out,HBA.out,HKA.out⟩
     case measure=>(simp [intOf]<;>omega)
  ·obtain rfl:q=dfn:=by omega
   have HEN2:=Lib.hid (HEN.out hno);have hfz:wr.cell? ⟨w.heap.size,10,none⟩=some (.slice fxa fxn fxc):=hblk.cell 10;have hlw:=hblk.lt;clear hno hlt hbel hblk HEN HXD HBE0 HBX0;go_wp2;obtain ⟨wo,hwo⟩:∃wo:World,wo=wr:=⟨_,rfl⟩
   go_loopw [26] (fun i wr=>∃z:Nat,z≤fxn∧i=.int .i64 z∧(∀j,j<z→badFx q (m.fx.getD j Fx.zero)=false)∧Below w.heap.size w wr∧Blk wr w.heap.size #[.int .i64 k,.string so,.slice nda ndn ndc,.int .u64 en,.slice coa con coc,.slice daa dan dac,.int .u64 bz,.slice tla tln tlc,.int .u64 tz,.slice dfa q dfc,.slice fxa fxn fxc] 47) (fun i _=>fxn-(intOf i).toNat)
   case atStart=>exact ⟨0,Nat.zero_le _,rfl,fun j hj=>absurd hj (by omega),HB.out,HK.out⟩
   case round=>
    clear hwo hfz hlw HB HK;obtain ⟨z,hz,rfl,hno,hbel,hblk⟩:=hrel;have HB:=Lib.hid hbel;have HK:=Lib.hid hblk;have hsz:=hbel.size;have hlw:=hblk.lt;by_cases hlt:z<fxn
    ·obtain ⟨b,off,hfxa,hbB,hcell⟩:=HFX.out.hc (by omega);subst hfxa;have hbw0:b<w.heap.size:=Nat.lt_of_lt_of_le hbB hB;obtain ⟨c0,c1,c2,c3,c4⟩:=(hcell z hlt).below hbel hbw0;have hbw:b<wr.heap.size:=by omega
     have hzi:(z:Int)<fxn:=by omega
     have HX1:=Lib.hid (HXF.out z hlt);have HNX:=Lib.hid (fun h=>no_upto (P:=fun j=>badFx q (m.fx.getD j Fx.zero)=false) hno h);have hok:=HFX.out.okAt hlt;generalize m.fx.getD z Fx.zero=f at c0 c1 c2 c3 c4 HX1 HNX hok;have hw:=hok.wh;have hd:=hok.df;obtain ⟨fw,fo,ft,fd,fa⟩:=f;simp only at c0 c1 c2 c3 c4 hw hd;obtain ⟨hw0,hw1⟩:=hw;obtain ⟨hd0,hd1⟩:=hd;have HBA:Hid (Below w.heap.size w (wr.alloc (.cells #[.int .i64 fw,.int .u64 fo,.int .u32 ft,.int .i64 fd,.int .i64 fa] 101))):=Lib.hid (hbel.alloc hsz _);have HKA:=Lib.hid (hblk.alloc (.cells #[.int .i64 fw,.int .u64 fo,.int .u32 ft,.int .i64 fd,.int .i64 fa] 101));have q9:wr.cell? ⟨w.heap.size,9,none⟩=some (.slice dfa q dfc):=hblk.cell 9;clear hcell hno hbel hblk hok;by_cases h12:fw=1∨fw=2
     ·have e1:(fw != 1 && fw != 2)=false:=by rcases h12 with h | h<;>rw [h]<;>rfl
      by_cases hdd:(q:Int)≤fd
      ·have HE:=Lib.hid (HX1.out (by unfold badFx;rw [decide_eq_true_eq];exact .inr hdd));rcases h12 with h | h
       ·have b1:(fw != 1)=false:=by rw [h];rfl
        clear h e1;go_wp2;go_ret;exact ⟨by rw [HE.out];rfl,HBA.out⟩
       ·have b1:(fw != 1)=true:=by rw [h];rfl
        have b2:(fw != 2)=false:=by rw [h];rfl
        clear h e1;go_wp2;go_ret;exact ⟨by rw [HE.out];rfl,HBA.out⟩
      ·have HN:=Lib.hid (HNX.out (by unfold badFx;rw [decide_eq_false_iff_not];simp only;omega));rcases h12 with h | h
       ·have b1:(fw != 1)=false:=by rw [h];rfl
        clear h e1;go_wp2;go_roundw
        case rel=>exact ⟨z+1,by omega,by go_num,HN.out,HBA.out,HKA.out⟩
        case measure=>(simp [intOf]<;>omega)
       ·have b1:(fw != 1)=true:=by rw [h];rfl
        have b2:(fw != 2)=false:=by rw [h];rfl
        clear h e1;go_wp2;go_roundw
        case rel=>exact ⟨z+1,by omega,by go_num,HN.out,HBA.out,HKA.out⟩
        case measure=>(simp [intOf]<;>omega)
     ·have HE:=Lib.hid (HX1.out (by unfold badFx;rw [decide_eq_true_eq];exact .inl ⟨fun e=>h12 (.inl e),fun e=>h12 (.inr e)⟩));have b1:(fw != 1)=true:=by rw [bne_iff_ne];exact fun h=>h12 (.inl h)
      have b2:(fw != 2)=true:=by rw [bne_iff_ne];exact fun h=>h12 (.inr h)
      clear h12;go_wp2;go_ret;exact ⟨by rw [HE.out];rfl,HBA.out⟩
    ·obtain rfl:z=fxn:=by omega
     have HEN3:=Lib.hid (HEN2.out hno);have q0:wr.cell? ⟨w.heap.size,0,none⟩=some (.int .i64 k):=hblk.cell 0;clear hno hbel hblk;go_wp2_with fail;refine (HMB.out _).mono ?_;rintro r w5 ⟨rfl,rfl⟩;go_wp2;go_ret;exact ⟨by rw [HEN3.out];rfl,HB.out⟩
def smallN (m:Sp):Bool:=decide (m.bs≤1048576∧m.tb≤1048576∧m.co.length+m.da.length+m.tl.length≤65536)
theorem small9_any (B:Nat) (x:Spv) (m:Sp) (w:World) (h:x.Is w B m) (l1:m.co.length≤1000000) (l2:m.da.length≤1000000) (l3:m.tl.length≤1000000) :
 Calls Tryz.prog 28 #[x.val] w fun r w'=>r=.returned (.bool (smallN m))∧Below w.heap.size w w':=by
 obtain ⟨R,hR⟩:∃R,smallN m=R:=⟨_,rfl⟩
 rw [hR];have hbs:=h.bs;have htb:=h.tb;have h1:=h.co.1;have h2:=h.da.1;have h3:=h.tl.1;have bbs:=h.bbs;have btb:=h.btb;obtain ⟨k,so,⟨nda,ndn,ndc⟩,en,⟨coa,con,coc⟩,⟨daa,dan,dac⟩,bz,⟨tla,tln,tlc⟩,tz,⟨dfa,dfn,dfc⟩,⟨fxa,fxn,fxc⟩⟩:=x;simp only at hbs htb h1 h2 h3;unfold smallN at hR;rw [h1,h2,h3,←hbs,←htb] at hR;rw [h1] at l1;rw [h2] at l2;rw [h3] at l3;rw [←hbs] at bbs;rw [←htb] at btb;obtain ⟨b0,b1⟩:=bbs;obtain ⟨t0,t1⟩:=btb;have i1:(con:Int)≤1000000:=by omega
 have i2:(dan:Int)≤1000000:=by omega
 have i3:(tln:Int)≤1000000:=by omega
 clear h hbs htb h1 h2 h3;unfold Spv.val;simp only
 have HB:Hid (Below w.heap.size w (w.alloc (.cells #[.int .i64 k,.string so,.slice nda ndn ndc,.int .u64 en,.slice coa con coc,.slice daa dan dac,.int .u64 bz,.slice tla tln tlc,.int .u64 tz,.slice dfa dfn dfc,.slice fxa fxn fxc] 47))):=Lib.hid ((Below.refl _ _).alloc (Nat.le_refl _) _);have HR:=Lib.hid hR;clear hR;by_cases c1:bz≤1048576
 ·by_cases c2:tz≤1048576
  ·by_cases c3:con+dan+tln≤65536
   ·have c3i:(con:Int)+dan+tln≤65536:=by omega
    have HE:Hid (R=true):=Lib.hid (by rw [←HR.out,decide_eq_true_eq];exact ⟨c1,c2,c3⟩);clear c3;go_enter Tryz.func28,Tryz.ntmps28
    go_wp2;go_ret;exact ⟨by rw [HE.out];rfl,HB.out⟩
   ·have c3i:¬(con:Int)+dan+tln≤65536:=by omega
    have HE:Hid (R=false):=Lib.hid (by rw [←HR.out,decide_eq_false_iff_not];exact fun h=>c3 h.2.2);clear c3;go_enter Tryz.func28,Tryz.ntmps28
    go_wp2;go_ret;exact ⟨by rw [HE.out];rfl,HB.out⟩
  ·have HE:Hid (R=false):=Lib.hid (by rw [←HR.out,decide_eq_false_iff_not];exact fun h=>c2 h.2.1);go_enter Tryz.func28,Tryz.ntmps28
   go_wp2;go_ret;exact ⟨by rw [HE.out];rfl,HB.out⟩
 ·have HE:Hid (R=false):=Lib.hid (by rw [←HR.out,decide_eq_false_iff_not];exact fun h=>c1 h.1);go_enter Tryz.func28,Tryz.ntmps28
  go_wp2;go_ret;exact ⟨by rw [HE.out];rfl,HB.out⟩
theorem wpList_append_strs9 {P:Program} {w:World} {ops:Array Oper} {rest:List Oper} {o:Oper} {a:Act} {Q:Exit→Act→World→Prop} (hgd:o.guard=none) (s x:Operand) (t:TypeId)
 (ho:o.op=.call { callee:=.builtin .append,args:=#[s,x],argTypes:=#[t,t] })
 (base:Nat) (e:TypeId) (i:TypeInfo) (z:Value) (bytes:Nat) (ht:P.underlying t=some (.slice e)) (hi:P.info? e=some i) (hz:i.zero=some z)
 (hsize:i.size=1) (hby:i.bytes=bytes) (hzs:z.cells.size=1)
 (v:Value) (n:Nat) (xs:List Value) (hs:a.eval s=v) (hown:w.ownsRow base e 1 v n xs)
 (ad:Option Addr) (m c:Nat) (B:Nat) (L:List ByteArray) (hx:a.eval x=.slice ad m c) (hst:Strs w B ad m L) (hc:ad=none→c=0)
 (h63:n+m≤maxLen) (hbytes:(n+m)*bytes≤140737488355328) (hbase:base≤w.heap.size)
 (h:∀v' w',w'.ownsRow base e 1 v' (n+m) (xs++L.map Value.string)→w.grownBy w' v.ownBlock→wpList P ops Q rest (a.put o.dst v') w'):wpList P ops Q (o :: rest) a w:=by
 cases ad with
 | none=>
   have hm:m=0:=by
    rcases Nat.eq_zero_or_pos m with h0 | h0
    ·exact h0
    ·obtain ⟨b,off,e,_⟩:=hst.2 h0;cases e
   subst hm;have hL:L=[]:=List.eq_nil_of_length_eq_zero hst.1;subst hL;obtain rfl:=hc rfl;refine wpList_append_own_none hgd s x t ho base e i 1 ht hi v n xs hs hown hx (h v w ?_ ⟨rfl,rfl,rfl,Nat.le_refl _,fun _ _ _=>rfl⟩);simpa using hown
 | some ad=>
   refine wpList_append_own w hgd s x t ho base e i z 1 bytes ht hi hz hsize hby hzs (by decide) v n xs hs hown ad m c (L.map Value.string) hx (by rw [List.length_map,hst.1];omega) ?_ (one_str L) h63 hbytes hbase (fun v' w' h1 h2 _=>h v' w' h1 h2);intro j u hj;have hjm:j<m:=by
    have:=(List.getElem?_eq_some_iff.1 hj).1;rw [List.length_map,hst.1] at this;exact this
   obtain ⟨b,off,e,_,hcell⟩:=hst.2 (by omega);injection e with e;subst e;exact Strs.src hst.1 hcell j u hj
theorem names_snoc {L:List Df} {q:Nat} (h:q<L.length):(L.take (q+1)).map (·.nm)=(L.take q).map (·.nm)++[(L.getD q Df.zero).nm]:=by
 rw [Df.take_snoc h,List.map_append];rfl
theorem names9_any (B:Nat) (x:Spv) (m:Sp) (w:World) (h:x.Is w B m) (hB:B≤w.heap.size) (hnil:x.nd.a=none→x.nd.c=0) (l1:m.nd.length≤1000000) (l4:m.df.length≤1000000) :
 Calls Tryz.prog 30 #[x.val] w fun r w'=>(∃u,r=.returned u∧w'.ownsRow w.heap.size 9 1 u (listB m).length ((listB m).map Value.string))∧Below w.heap.size w w':=by
 obtain ⟨i0,hI,hz0,hz1,hz2⟩:=info_parts info_str;have HI:=Lib.hid hI;have HZ0:=Lib.hid hz0;have HZ1:=Lib.hid hz1;have HZ2:=Lib.hid hz2;have HND:=Lib.hid h.nd;have HDF:=Lib.hid h.df;have HNIL:=Lib.hid hnil;have hso:=h.so;have hnl:=h.nd.1;have hdl:=h.df.hl;obtain ⟨k,so,⟨nda,ndn,ndc⟩,en,⟨coa,con,coc⟩,⟨daa,dan,dac⟩,bz,⟨tla,tln,tlc⟩,tz,⟨dfa,dfn,dfc⟩,⟨fxa,fxn,fxc⟩⟩:=x;simp only at HND HDF HNIL hso hnl hdl;subst hso;have HNL:=Lib.hid hnl;have HDL:=Lib.hid hdl;have hl1:ndn≤1000000:=by omega
 have hl4:dfn≤1000000:=by omega
 have i4:(dfn:Int)≤1000000:=by omega
 obtain ⟨LB,hLB⟩:∃LB,listB m=LB:=⟨_,rfl⟩
 rw [hLB];have HLB:Hid (LB=(m.so :: m.nd)++(m.df.take dfn).map (·.nm)):=Lib.hid (by rw [←hLB];unfold listB;rw [List.take_of_length_le (by omega)];rfl);clear h hI hz0 hz1 hz2 hnil hnl hdl l1 l4 hLB;unfold Spv.val;simp only
 obtain ⟨C,hC⟩:∃C:Array Value,C=#[.int .i64 k,.string m.so,.slice nda ndn ndc,.int .u64 en,.slice coa con coc,.slice daa dan dac,.int .u64 bz,.slice tla tln tlc,.int .u64 tz,.slice dfa dfn dfc,.slice fxa fxn fxc]:=⟨_,rfl⟩
 have HCC:Hid (∀wx,Blk wx w.heap.size C 47→Blk wx w.heap.size #[.int .i64 k,.string m.so,.slice nda ndn ndc,.int .u64 en,.slice coa con coc,.slice daa dan dac,.int .u64 bz,.slice tla tln tlc,.int .u64 tz,.slice dfa dfn dfc,.slice fxa fxn fxc] 47):=Lib.hid (fun wx h=>by rw [←hC];exact h);have HST0:Hid (RowSt w ((w.alloc (.cells #[.int .i64 k,.string m.so,.slice nda ndn ndc,.int .u64 en,.slice coa con coc,.slice daa dan dac,.int .u64 bz,.slice tla tln tlc,.int .u64 tz,.slice dfa dfn dfc,.slice fxa fxn fxc] 47)).alloc (.cells #[.string m.so] 9)) C 47 9 1 (.slice (some ⟨w.heap.size+1,0,none⟩) 1 1) 1 [.string m.so]):=Lib.hid
  ⟨⟨rfl,.inr ⟨_,_,_,rfl,Nat.le_refl _,by have:=Blk.new (w.alloc (.cells #[.int .i64 k,.string m.so,.slice nda ndn ndc,.int .u64 en,.slice coa con coc,.slice daa dan dac,.int .u64 bz,.slice tla tln tlc,.int .u64 tz,.slice dfa dfn dfc,.slice fxa fxn fxc] 47)) #[.string m.so] 9;rw [World.size_alloc] at this;exact this,Nat.le_refl _,by decide,rfl,rfl⟩⟩,by rw [hC];exact (Blk.new _ _ _).alloc _,((Below.refl _ _).alloc (Nat.le_refl _) _).alloc (by simp) _⟩
 have HNB:Hid (Strs ((w.alloc (.cells #[.int .i64 k,.string m.so,.slice nda ndn ndc,.int .u64 en,.slice coa con coc,.slice daa dan dac,.int .u64 bz,.slice tla tln tlc,.int .u64 tz,.slice dfa dfn dfc,.slice fxa fxn fxc] 47)).alloc (.cells #[.string m.so] 9)) B nda ndn m.nd):=Lib.hid (HND.out.below ((((Below.refl _ _).alloc (Nat.le_refl _) _).alloc (by simp) _).mono hB));clear hC;go_enter Tryz.func30,Tryz.ntmps30
 go_wp2_with (at_builtin;refine wpList_append_strs9 rfl _ _ 28 rfl (w.heap.size+1) 9 i0 (.string .empty) 16 Tryz.underlying28 HI.out HZ0.out HZ1.out HZ2.out rfl _ 1 _ rfl HST0.out.own _ ndn ndc _ m.nd rfl HNB.out HNIL.out ?e1 ?e2 ?e3 ?_);case e1=>unfold maxLen;omega
 case e2=>omega
 case e3=>simp
 intro v2 w2 hown2 hg2;have HST1:Hid (RowSt w w2 C 47 9 1 v2 (1+ndn) ((m.so :: m.nd).map Value.string)):=Lib.hid
  ⟨hown2,HST0.out.box.grown hg2 (fun e=>by have:=(HST0.out.own.lt _ e.symm).1;omega),HST0.out.bel.grown hg2 HST0.out.bel.size (fun q e=>by have:=(HST0.out.own.lt q e).1;omega)⟩
 have hbx:=HCC.out _ HST1.out.box;have q9:w2.cell? ⟨w.heap.size,9,none⟩=some (.slice dfa dfn dfc):=hbx.cell 9;have hlw:=hbx.lt;obtain ⟨va,vc,hva,-,-⟩:=row_slice hown2;subst hva;clear hown2 hg2 hbx HST0 HNB;go_wp2;go_loopw [3,15] (fun l i wr=>∃(q:Nat) (Z:List ByteArray),q≤dfn∧i=.int .i64 q∧Z=(m.so :: m.nd)++(m.df.take q).map (·.nm)∧RowSt w wr C 47 9 1 l (1+ndn+q) (Z.map Value.string)) (fun _ i _=>dfn-(intOf i).toNat)
 case atStart=>exact ⟨0,m.so :: m.nd,Nat.zero_le _,rfl,by simp,HST1.out⟩
 case round=>
  obtain ⟨q,Z,hq,rfl,hZ,hst⟩:=hrel;have HZZ:=Lib.hid hZ;clear hZ;have HST:=Lib.hid hst;obtain ⟨la,lc,rfl,-,-⟩:=row_slice hst.own;by_cases hlt:q<dfn
  ·have hqi:(q:Int)<dfn:=by omega
   obtain ⟨b,off,hdfa,hbB,hcell⟩:=HDF.out.hc (by omega);subst hdfa;have hbw0:b<w.heap.size:=Nat.lt_of_lt_of_le hbB hB;obtain ⟨c0,c1,c2,c3⟩:=(hcell q hlt).below hst.bel hbw0;have hbw:b<wr.heap.size:=Nat.lt_of_lt_of_le hbw0 hst.bel.size;have HSU:=Lib.hid (names_snoc (L:=m.df) (q:=q) (by rw [HDL.out];exact hlt));clear hcell hst;generalize m.df.getD q Df.zero=d at c0 c1 c2 c3 HSU;obtain ⟨dn,dw,dof,dk⟩:=d;simp only at c0 c1 c2 c3 HSU;have HSA:=Lib.hid (HST.out.alloc (.cells #[.string dn,.int .i64 dw,.int .u64 dof,.bool dk] 61));go_wp2_with (at_builtin;refine wpList_append_own _ rfl _ _ 28 rfl (w.heap.size+1) 9 i0 _ 1 16 Tryz.underlying28 HI.out HZ0.out HZ1.out HZ2.out rfl (by decide) _ (1+ndn+q) _ rfl (HSA.out.alloc _).own _ 1 1 [.string dn] rfl rfl ?d1 ?d2 ?d3 ?d4 ?d5 ?_);try (case d1=>exact lit_cells (wr.alloc _) [.string dn] _ _ (by simp))
   case d2=>first | (intro u hu;obtain rfl:=List.mem_singleton.1 hu;rfl) | rfl | simp
   case d3=>unfold maxLen;omega
   case d4=>omega
   case d5=>have:=HSA.out.box.lt;simp at this;simp;omega
   intro v4 w4 hown4 hg4 _;have HA:Hid (RowSt w w4 C 47 9 1 v4 (1+ndn+(q+1)) ((Z++[dn]).map Value.string)):=Lib.hid (HSA.out.app (by rw [List.map_append];exact hown4) hg4);have HZ9:Hid (Z++[dn]=(m.so :: m.nd)++(m.df.take (q+1)).map (·.nm)):=Lib.hid (by rw [HSU.out,HZZ.out,List.append_assoc]);clear hown4 hg4;go_wp2;go_roundw
   case rel=>exact ⟨q+1,Z++[dn],by omega,by go_num,HZ9.out,HA.out⟩
   case measure=>(simp [intOf]<;>omega)
  ·obtain rfl:q=dfn:=by omega
   have HLN:Hid (LB.length=1+ndn+q):=Lib.hid (by rw [HLB.out];simp [HNL.out,HDL.out];omega);clear hst;go_wp2;go_ret;refine ⟨⟨_,rfl,?_⟩,HST.out.bel⟩;rw [HLN.out,HLB.out,←HZZ.out];exact own_base9 HST.out.own (Nat.le_succ _)
theorem parts_fit {m:Sp} (h:MayB m) (n Dy V1 V3 V5 Cp Dp Tp:Nat) (hn:(fileB m).length=n) (e1:dynB m=Dy) (e2:strB m=V1) (e3:symB m=V3) (e4:relB m=V5) (e5:codeB m=Cp) (e6:dataB m=Dp) (e7:tlsB m=Tp) (E4:List Int)
 (h4:E4=(if 0<m.df.length then List.replicate 24 0 else [])++(symsB m m.df.length).flatMap encY) :
 64≤n∧64+((segsB m).flatMap encS).length≤n∧Dy+(putBy (needO m) (vB m)).length≤n∧V1+(tabB m).length≤n∧(E4.length=0∨V3+E4.length≤n)∧(((relsB m m.fx.length).flatMap encL).length=0∨V5+((relsB m m.fx.length).flatMap encL).length≤n)∧
 (m.co.length=0∨Cp+m.co.length≤n)∧(m.da.length=0∨Dp+m.da.length≤n)∧(m.tl.length=0∨Tp+m.tl.length≤n)∧V3≤1000000∧V5≤1000000∧Cp≤1000000∧Dp≤1000000∧Tp≤1000000:=by
 have p:=h.places;have s:=p.small h;have hf:=file_len h;rw [hn] at hf;have p1:=p.tl;have p2:=p.da;have p3:=h.sz;have p4:=p.co;have p5:=p.en;have p6:=p.re;have p7:=p.sy;have p8:=p.sn;have p9:=p.rn;have p10:=p.st;have p11:=p.sz;have p12:=p.dy;have p13:=p.c;have hge:endB m≤n:=by (repeat' split at hf)<;>omega
 have a2:=flat_len encS 56 encS_len (segsB m);have a3:=putV_len m;have a4:=segsB_len m;have hsz:sizeB m=(putBy (needO m) (v0B m)).length:=rfl;have a5:=flat_len encL 24 encL_len (relsB m m.fx.length);have a6:(relsB m m.fx.length).length=m.fx.length:=by unfold relsB;simp
 have a7:=flat_len encY 24 encY_len (symsB m m.df.length);have a8:(symsB m m.df.length).length=m.df.length:=by unfold symsB;simp
 have a9:(E4.length:Int)=24*symN m:=by
  rw [h4,List.length_append,a7,a8];unfold symN;split
  ·rw [List.length_replicate];omega
  ·rw [List.length_nil];omega
 generalize (segsB m).flatMap encS=A2 at *;generalize putBy (needO m) (vB m)=A3 at *;generalize (relsB m m.fx.length).flatMap encL=A5 at *;refine ⟨by omega,by omega,by omega,by omega,.inr (by omega),.inr (by omega),?_,?_,?_,by omega,by omega,by omega,by omega,by omega⟩
 ·by_cases c:m.co.length=0
  ·exact .inl c
  ·exact .inr (by (repeat' split at hf)<;>omega)
 ·by_cases c:m.da.length=0
  ·exact .inl c
  ·exact .inr (by (repeat' split at hf)<;>omega)
 ·by_cases c:m.tl.length=0
  ·exact .inl c
  ·exact .inr (by (repeat' split at hf)<;>omega)
theorem mk_sg {a b c d e f g:Int} (h0:0≤a∧a≤4294967295) (h1:0≤b∧b≤4294967295) (h2:0≤c∧c≤18446744073709551615) (h3:0≤d∧d≤18446744073709551615) (h4:0≤e∧e≤18446744073709551615) (h5:0≤f∧f≤18446744073709551615) (h6:0≤g∧g≤18446744073709551615):Sg.Ok ⟨a,b,c,d,e,f,g⟩:=⟨h0,h1,h2,h3,h4,h5,h6⟩
theorem mk_sy {a b c d e f:Int} (h0:0≤a∧a≤4294967295) (h1:0≤b∧b≤255) (h2:0≤c∧c≤255) (h3:0≤d∧d≤65535) (h4:0≤e∧e≤18446744073709551615) (h5:0≤f∧f≤18446744073709551615):Sy.Ok ⟨a,b,c,d,e,f⟩:=⟨h0,h1,h2,h3,h4,h5⟩
theorem mk_rl {a b c d:Int} (h0:0≤a∧a≤18446744073709551615) (h1:0≤b∧b≤4294967295) (h2:0≤c∧c≤4294967295) (h3:-9223372036854775808≤d∧d≤9223372036854775807):Rl.Ok ⟨a,b,c,d⟩:=⟨h0,h1,h2,h3⟩
theorem segs_ok {m:Sp} (h:MayB m):∀s∈segsB m,s.Ok:=by
 have p:=h.places;have s:=p.small h;have p1:=p.tl;have p2:=p.da;have p3:=h.sz;have p4:=p.co;have p5:=p.en;have p6:=p.re;have p7:=p.sy;have p8:=p.sn;have p9:=p.rn;have p10:=p.st;have p11:=p.sz;have p12:=p.dy;have p13:=p.c;have hbs:=h.bs;have htb:=h.tb;obtain ⟨d1,d2,d3,d4⟩:=dat_id h;intro z hz;unfold segsB at hz;simp only [List.mem_append] at hz;rcases hz with (((hz | hz) | hz) | hz) | hz
 ·obtain rfl:=List.mem_singleton.1 hz;exact mk_sg (by decide) (by decide) (by decide) (by decide) (by omega) (by omega) (by decide)
 ·split at hz
  ·obtain rfl:=List.mem_singleton.1 hz;exact mk_sg (by decide) (by decide) (by omega) (by omega) (by omega) (by omega) (by decide)
  ·cases hz
 ·split at hz
  ·obtain rfl:=List.mem_singleton.1 hz;exact mk_sg (by decide) (by decide) (by split<;>omega) (by omega) (by omega) (by omega) (by decide)
  ·cases hz
 ·obtain rfl:=List.mem_singleton.1 hz;exact mk_sg (by decide) (by decide) (by omega) (by omega) (by omega) (by omega) (by decide)
 ·split at hz
  ·obtain rfl:=List.mem_singleton.1 hz;exact mk_sg (by decide) (by decide) (by split<;>omega) (by split<;>omega) (by omega) (by omega) (by decide)
  ·cases hz
theorem wrap_bd (x:Int):0≤IntKind.u64.wrap x∧IntKind.u64.wrap x≤18446744073709551615:=by rw [IntKind.wrap_u64];omega
theorem sym_ok {m:Sp} {d:Df} {p:Int} (hd:0≤d.wh∧d.wh≤3) (ho:u64B d.of) (h0:0≤p∧p≤65536):(symOf m d p).Ok:=by
 unfold symOf;refine mk_sy ⟨h0.1,by omega⟩ ?_ (by decide) ?_ ?_ (by decide)
 ·(repeat' split)<;>omega
 ·split<;>decide
 ·split
  ·decide
  ·split
   ·exact wrap_bd _
   ·split
    ·exact wrap_bd _
    ·exact ho
theorem symsN_ok {m:Sp} {b:Bm} (h:MayB m) (hm:b.m=m) (hi:b.i=biB m) (hp:b.pd=(outB m).drop (1+m.nd.length)):∀s∈symsN b,s.Ok:=by
 intro s hs;unfold symsN at hs;rw [hm] at hs;split at hs
 ·cases hs
 ·rcases List.mem_cons.1 hs with rfl | hs
  ·constructor<;>decide
  ·unfold syms9 at hs;obtain ⟨j,hj,rfl⟩:=List.mem_map.1 hs;rw [List.mem_range] at hj;have e1:((outB m).drop (1+m.nd.length)).getD j 0=(outB m).getD (1+m.nd.length+j) 0:=by
    rw [List.getD_eq_getElem?_getD,List.getElem?_drop,←List.getD_eq_getElem?_getD]
   have hmem:m.df.getD j Df.zero∈m.df:=by rw [List.getD_eq_getElem?_getD,List.getElem?_eq_getElem hj];exact List.getElem_mem hj
   rw [hm,hi,hp,e1,symOf_eq (h.df _ hmem) (out_bd h _)];exact sym_ok (h.df _ hmem) (h.dok _ hmem) (out_bd h _)
theorem relsN_ok {m:Sp} (h:MayB m):∀s∈relsB m m.fx.length,s.Ok:=by
 intro s hs;unfold relsB at hs;obtain ⟨j,hj,rfl⟩:=List.mem_map.1 hs;rw [List.mem_range] at hj;have hmem:m.fx.getD j Fx.zero∈m.fx:=by rw [List.getD_eq_getElem?_getD,List.getElem?_eq_getElem hj];exact List.getElem_mem hj
 have h1:=h.fx _ hmem;have h2:=h.fok _ hmem;have h3:=h.dfl;generalize m.fx.getD j Fx.zero=f at h1 h2;unfold relOf;refine mk_rl ?_ h2.2.1 ?_ h2.2.2
 ·split<;>exact wrap_bd _
 ·split<;>omega
theorem biB_ok {m:Sp} (h:MayB m):(biB m).Ok:=by
 have p:=h.places;have s:=p.small h;have p1:=p.tl;have p2:=p.da;have p3:=h.sz;have p4:=p.co;have p5:=p.en;have p6:=p.re;have p7:=p.sy;have p8:=p.sn;have p9:=p.rn;have p10:=p.st;have p11:=p.sz;have p12:=p.dy;have p13:=p.c;have ht:=h.tab;have ho:=out_bd h 0;have hf:=h.fxl;unfold biB;refine ⟨⟨ho.1,?_⟩,⟨?_,?_⟩,⟨?_,?_⟩,⟨?_,?_⟩,⟨?_,?_⟩,⟨?_,?_⟩,⟨?_,?_⟩,⟨?_,?_⟩,⟨?_,?_⟩,⟨?_,?_⟩,⟨?_,?_⟩,⟨?_,?_⟩⟩;all_goals simp only
 all_goals omega
theorem Nus.sub {w:World} {B b n:Nat} {O:List Int} (h:Nus w B (some ⟨b,0,none⟩) n O) (k j p:Nat) (hk:k+j≤n) (hp:j=0∨p=k):Nus w B (some ⟨b,p,none⟩) j ((O.drop k).take j):=by
 have hl:=h.hl;refine ⟨by rw [List.length_take,List.length_drop];omega,fun z hz=>h.bd z (List.mem_of_mem_drop (List.mem_of_mem_take hz)),fun hj=>?_⟩;obtain ⟨b',o',e,hb,hc⟩:=h.hc (by omega);injection e with e;injection e with e1 e2;subst e1;subst e2;refine ⟨b,p,rfl,hb,fun i hi=>?_⟩;have:=hc (k+i) (by omega);rw [Nat.zero_add] at this;rw [show p=k by omega,this]
 congr 2
 rw [List.getD_eq_getElem?_getD,List.getD_eq_getElem?_getD,List.getElem?_take_of_lt hi,List.getElem?_drop]
theorem valid_iff (m:Sp):validN m=true↔(m.df.any badDf=false∧m.fx.any (badFx m.df.length)=false∧(m.k=2∨m.k=3)):=by
 unfold validN;rw [Bool.and_eq_true,Bool.and_eq_true,Bool.not_eq_true',Bool.not_eq_true',Bool.or_eq_true,beq_iff_eq,beq_iff_eq];exact ⟨fun ⟨⟨a,b⟩,c⟩=>⟨a,b,c⟩,fun ⟨a,b,c⟩=>⟨⟨a,b⟩,c⟩⟩
theorem build_no {m:Sp} (h:validN m=false):buildI m=(1,[]):=by
 have e:mayI m=1:=by
  unfold mayI;by_cases hk:m.k≠2∧m.k≠3
  ·rw [if_pos hk]
  ·rw [if_neg hk];cases h1:m.df.any badDf with
   | true=>rfl
   | false=>
     cases h2:m.fx.any (badFx m.df.length) with
     | true=>rfl
     | false=>
       exfalso
       have:=(valid_iff m).2 ⟨h1,h2,by omega⟩;rw [h] at this;cases this
 unfold buildI;rw [e];rfl
theorem may_small {m:Sp} (h:validN m=true):mayI m=if smallN m=true then 0 else 13:=by
 obtain ⟨h1,h2,h3⟩:=(valid_iff m).1 h;unfold mayI smallN;rw [if_neg (by omega),h1,h2,if_neg (by decide),if_neg (by decide)];by_cases c:m.bs≤1048576∧m.tb≤1048576∧m.co.length+m.da.length+m.tl.length≤65536
 ·rw [if_neg (by omega),if_pos (decide_eq_true c)]
 ·rw [if_pos (by omega),if_neg (by rw [decide_eq_true_eq];exact c)]
theorem build_great {m:Sp} (h:validN m=true) (hs:smallN m=false):buildI m=(13,[]):=by
 unfold buildI;rw [may_small h,hs];rfl
theorem build_dirty {m:Sp} (h:validN m=true) (hs:smallN m=true) (hc:cleanB (listB m)=false):buildI m=(1,[]):=by
 unfold buildI;rw [may_small h,hs,if_neg (by decide),if_pos hc]
theorem build_long {m:Sp} (h:validN m=true) (hs:smallN m=true) (hc:cleanB (listB m)=true) (ht:65536<(tabB m).length):buildI m=(13,[]):=by
 unfold buildI;rw [may_small h,hs,if_neg (by decide),if_neg (by rw [hc];decide),if_pos ht]
theorem build_file {m:Sp} (h:validN m=true) (hs:smallN m=true) (hc:cleanB (listB m)=true) (ht:(tabB m).length≤65536):buildI m=if 65536<(fileB m).length then (13,[]) else (0,fileB m):=by
 unfold buildI;rw [may_small h,hs,if_neg (by decide),if_neg (by rw [hc];decide),if_neg (by omega)]
def k4_flatE (L:List Sg):List Int:=L.flatMap encS
theorem k4_flatE_len:∀L:List Sg,(k4_flatE L).length=56*L.length
 | []=>rfl
 | s :: L=>by
   have:=k4_flatE_len L;unfold k4_flatE at this⊢;rw [List.flatMap_cons,List.length_append,encS_len,this,List.length_cons];omega
theorem flatE_step {L:List Sg} {k:Nat} (h:k<L.length):k4_flatE (L.take (k+1))=k4_flatE (L.take k)++encS (L.getD k sg0):=by
 rw [take_snoc h];unfold k4_flatE;rw [List.flatMap_append];simp
theorem flatE_piece {L:List Sg} {k:Nat} (h:k<L.length):piece (k4_flatE L) (56*k) 56=encS (L.getD k sg0):=by
 have e:k4_flatE L=k4_flatE (L.take k)++(encS (L.getD k sg0)++k4_flatE (L.drop (k+1))):=by
  rw [←List.append_assoc,←flatE_step h];unfold k4_flatE;rw [←List.flatMap_append,List.take_append_drop]
 rw [e];exact piece_at (by rw [k4_flatE_len,List.length_take];omega) (encS_len _)
theorem flatE_seg {L:List Sg} (hok:∀s∈L,s.Ok) {k:Nat} (h:k<L.length):segAt (k4_flatE L) k=L.getD k sg0∧goodAt (k4_flatE L) k:=by
 have e:=getS_enc (hok _ (getD_mem h)) [];rw [List.append_nil] at e;unfold goodAt segAt;rw [flatE_piece h,e.1,e.2];exact ⟨rfl,rfl⟩
theorem flatE_tab {L:List Sg} (hok:∀s∈L,s.Ok):k4_tabS (k4_flatE L) L.length=L∧goodT (k4_flatE L) L.length=true:=by
 refine ⟨?_,goodT_yes fun j hj=>(flatE_seg hok hj).2⟩;apply List.ext_getElem
 ·rw [k4_tabS_len]
 ·intro i h1 h2;have:=(flatE_seg hok h2).1;rw [List.getD_eq_getElem?_getD,List.getElem?_eq_getElem h2] at this;simpa [k4_tabS] using this
end Go.Proofs.YtclgbdfkdbbinaaGreat
namespace Go.Proofs.YtclgbdfkdbbinaaGreat
open Go.RowKit Go.WideMaps Go.Maps

end Go.Proofs.YtclgbdfkdbbinaaGreat
namespace Go.Proofs.YtclgbdfkdbbinaaGreat
open Go.RowKit

theorem getD_app_right {zs r:List Int} (i:Nat):(zs++r).getD (zs.length+i) 0=r.getD i 0:=by
 rw [List.getD_eq_getElem?_getD,List.getElem?_append_right (by omega),Nat.add_sub_cancel_left,List.getD_eq_getElem?_getD]
theorem tab_first (L:List ByteArray) (k:Nat):(tab L k).getD 0 0=0:=by
 obtain ⟨r,hr⟩:=tab_pre L (Nat.zero_le k);rw [hr];rfl
theorem tab_at {L:List ByteArray} {n:Nat} {s:ByteArray} (h:Seen L n s):pos L n s+s.size<(tab L n).length∧piece (tab L n) (pos L n s) s.size=bs s∧(tab L n).getD (pos L n s+s.size) 0=0:=by
 by_cases hs:s=.empty
 ·subst hs;rw [pos_empty];exact ⟨tab_pos L n,rfl,tab_first L n⟩
 ·rcases h with h | ⟨i,h1,h2⟩
  ·exact absurd h hs
  ·rcases Nat.lt_or_ge (firstAt L s n) n with h3 | h3
   ·have hh:=firstAt_hit h3;obtain ⟨f,hf⟩:∃f,f=firstAt L s n:=⟨_,rfl⟩
    have hp:pos L n s=(tab L f).length:=by unfold pos;rw [if_neg hs,hf]
    rw [←hf] at hh h3;have hn:seenB L f (nm L f)=false:=by
     rw [Bool.eq_false_iff];intro hse;rcases (seenB_iff _ _ _).1 hse with h4 | ⟨j,h4,h5⟩
     ·exact hs (hh.1▸h4)
     ·exact hh.2 j h4 (by rw [h5,hh.1])
    obtain ⟨r,hr⟩:=tab_pre L (k:=f+1) (m:=n) (by omega);rw [tab_new hn,hh.1] at hr;have e:tab L n=tab L f++(bs s++([0]++r)):=by rw [hr];simp only [List.append_assoc]
    rw [hp,e];refine ⟨by simp [bs_len],?_,?_⟩
    ·unfold piece;rw [List.drop_left,←bs_len,List.take_left]
    ·rw [getD_app_right,←bs_len];have:=getD_app_right (zs:=bs s) (r:=[0]++r) 0;rw [Nat.add_zero] at this;rw [this];rfl
   ·exact absurd h2 (firstAt_miss (by omega) i h1)
theorem tab_firstZ {L:List ByteArray} {n:Nat} {s:ByteArray} (h:Seen L n s) (hz:k2_NoZ (bs s)):k2_FirstZ (piece (tab L n) (pos L n s) ((tab L n).length-pos L n s)) s.size:=by
 obtain ⟨h1,h2,h3⟩:=tab_at h;refine ⟨by rw [piece_len (by omega)];omega,by rw [piece_getD (by omega)];exact h3,fun i hi=>?_⟩;rw [piece_getD (by omega),←piece_getD (n:=s.size) hi,h2];exact hz i (by rw [bs_len];exact hi)
theorem clean_seen {L:List ByteArray} {i:Nat} (hi:i<L.length):Seen L L.length (nm L i):=.inr ⟨i,hi,rfl⟩
end Go.Proofs.YtclgbdfkdbbinaaGreat
