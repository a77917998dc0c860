/-
  What is proved here: words and contracts, a part of those that the statement rests on (B7).
  Conditions: none but that the arguments are values of their types.
-/
import Derived.Test.YtclgbdfkdbbinaaGreatB0
import Derived.Test.YtclgbdfkdbbinaaGreatB4
import Derived.Test.YtclgbdfkdbbinaaGreatB1
import Derived.Test.YtclgbdfkdbbinaaGreatB3
import Derived.Test.YtclgbdfkdbbinaaGreatB6
import Derived.Test.YtclgbdfkdbbinaaGreatB2
import Derived.Test.YtclgbdfkdbbinaaGreatB5
import Derived.Deep.Cut
import Derived.Deep.DeepCutAuto
set_option linter.unusedVariables false
set_option linter.unusedSimpArgs false
set_option maxRecDepth 100000
set_option maxHeartbeats 12800000
namespace Go.Proofs.YtclgbdfkdbbinaaGreat
open Go.RowKit
theorem ij {k c:Int} (h:¬(2≤k∧k≤4∧0≤c∧c≤64)):dY k c=false:=by
 cases hv:dY k c with
 | false=>rfl
 | true=>exact absurd (dF.1 hv) h
theorem jd (k e s c:Int) (w:World) :
 Calls Tryz.prog 132 #[cU k e s c] w fun r w'=>r=.returned (.bool (dY k c))∧Below w.heap.size w w':=by
 obtain ⟨b,hb⟩:∃b,dY k c=b:=⟨_,rfl⟩
 rw [hb];have HB:=hZz hb;have hbl:∀o,Below w.heap.size w (w.alloc o):=fun o=>(Below.refl _ _).alloc (lZr _) o;clear hb;unfold cU;by_cases h1:2≤k
 ·by_cases h2:k≤4
  ·by_cases h3:0≤c
   ·by_cases h4:c≤64
    ·go_enter Tryz.func132,Tryz.ntmps132
     go_wp2;go_ret;refine ⟨bO ?_,hbl _⟩;rw [←HB.out,dF.2 ⟨h1,h2,h3,h4⟩];try simp<;>omega
    ·go_enter Tryz.func132,Tryz.ntmps132
     go_wp2;go_ret;refine ⟨bO ?_,hbl _⟩;rw [←HB.out,ij (fun h=>by omega)];try simp<;>omega
   ·go_enter Tryz.func132,Tryz.ntmps132
    go_wp2;go_ret;refine ⟨bO ?_,hbl _⟩;rw [←HB.out,ij (fun h=>by omega)];try simp<;>omega
  ·go_enter Tryz.func132,Tryz.ntmps132
   go_wp2;go_ret;refine ⟨bO ?_,hbl _⟩;rw [←HB.out,ij (fun h=>by omega)];try simp<;>omega
 ·go_enter Tryz.func132,Tryz.ntmps132
  go_wp2;go_ret;refine ⟨bO ?_,hbl _⟩;rw [←HB.out,ij (fun h=>by omega)];try simp<;>omega
theorem kh (x:Int) (n:Nat):gp (List.replicate n 0) 0 x n=ai x n:=by
 simp [gp,List.drop_eq_nil_of_le]
theorem jC (n:Nat):List.replicate n (Value.int .u8 0)=(List.replicate n (0:Int)).map (Value.int .u8):=by
 rw [List.map_replicate]
def aI (zs:List Int) (u:Value) (w:World):Prop:=∃g c,u=.slice (some ⟨g,0,none⟩) zs.length c∧zs.length≤c∧(c:Int)≤9223372036854775807∧Bys w w.heap.size (some ⟨g,0,none⟩) zs.length zs
theorem ni {w:World} {base:Nat} {u:Value} {zs:List Int} (h:w.ownsRow base 5 1 u zs.length (zs.map (Value.int .u8))) (h0:0<zs.length) (hz:∀n∈zs,0≤n∧n≤255):aI zs u w:=by
 obtain ⟨g,c,rfl,_⟩:=gO h h0;have hcap:zs.length≤c∧c≤maxLen:=by
  rcases h.2 with ⟨hx,_⟩ | ⟨g,c,cur,hx,_,_,h3,h4,_⟩
  ·cases hx
  ·injection hx with _ _ hx;subst hx;exact ⟨h3,h4⟩
 exact ⟨g,c,rfl,hcap.1,by have:=hcap.2;unfold maxLen at this;omega,Bys.own hz h⟩
theorem bj (x:Int) (n:Nat) (w:World) (h:n=1∨n=2∨n=4∨n=8) (x0:0≤x) (x1:x≤18446744073709551615) :
 Calls Tryz.prog 134 #[.int .u64 x,.int .i64 n] w fun r w'=>(∃u,r=.returned u∧aI (ai x n) u w')∧Below w.heap.size w w':=by
 obtain ⟨i0,hi,hz0,hz1,hz2⟩:=info_parts aM;have Hn:=hZz h;have hn8:n≤8:=by omega
 have HI:=hZz hi;have HZ0:=hZz hz0;have HZ1:=hZz hz1;have HZ2:=hZz hz2;clear h hi hz0 hz1 hz2;go_enter Tryz.func134,Tryz.ntmps134
 go_wp2_with (at_make;refine wpList_make_full _ rfl _ _ 22 rfl w.heap.size 5 i0 (.int .u8 0) 1 Tryz.underlying22 HI.out HZ0.out HZ1.out .i64 .i64 _ _ n rfl rfl rfl rfl ?c1 ?c2 ?c3 ?_);case c1=>rw [HZ2.out];omega
 case c2=>unfold maxLen;omega
 case c3=>exact lZr _
 intro w1 hown hg;have hb1:Below w.heap.size w w1:=(Below.refl _ _).grown hg (lZr _) (fun _ e=>by cases e);rw [toList_madeCells_one,jC] at hown;have HBY:=hZz (Bys.own (zs:=List.replicate n 0) (fun m hm=>by rw [List.eq_of_mem_replicate hm];omega) hown);clear hown hg;go_wp2_with (go_at_call 129;refine (kC _ _ _ _ (List.replicate n 0) 0 n x _ HBY.out (lZr _) Hn.out oZm oZm x0 x1).mono ?_);rintro e w2 ⟨rfl,hown,hb2⟩;rw [kh] at hown;have hby:=Bys.own (bE x n) hown;have HM:Hid (aI (ai x n) (.slice (some ⟨w1.heap.size,0,none⟩) n n) w2):=hZz (by
  refine ⟨w1.heap.size,n,by rw [ay],by rw [ay];exact lZr _,by omega,?_⟩;rw [ay];exact hby)
 have hbb:=hb1.trans (hb2.mono hb1.size);clear hown hby hb1 hb2;go_wp2;go_ret;exact ⟨⟨_,rfl,HM.out⟩,hbb⟩
theorem cY (B:Nat) (a:Option Addr) (len cap:Nat) (zs:List Int) (p n:Nat) (w:World) (hb:Bys w B a len zs) (h:n=1∨n=2∨n=4∨n=8) (hl:(len:Int)≤9223372036854775807) (hs:p+n≤len) :
 Calls Tryz.prog 86 #[.slice a len cap,.int .u64 p,.int .i64 n] w fun e w'=>e=.returned (.int .u64 (num (am zs p n)))∧w=w':=by
 have HB:=hZz hb;have Hn:=hZz h;clear hb h;go_enter Tryz.func86,Tryz.ntmps86
 go_wp2_with (go_at_call 131;refine (iz _ _ _ _ _ _ _ _ HB.out Hn.out hl hs).mono ?_;rintro e w' ⟨rfl,rfl⟩);go_ret;exact ⟨rfl,rfl⟩
theorem mK {zs ys:List Int} (hz:∀n∈zs,0≤n∧n≤255) (hy:∀n∈ys,0≤n∧n≤255):(strOfNums zs=strOfNums ys)↔zs=ys:=
 ⟨fun h=>by rw [←gg hz,←gg hy,h],fun h=>by rw [h]⟩
theorem jZ (l:List UInt8):Lib.bytesOf (l.map fun c=>(c.toNat:Int))=l:=by
 unfold Lib.bytesOf;rw [List.map_map];conv=>rhs;rw [←List.map_id l]
 refine List.map_congr_left fun c _=>?_;simp
theorem lG {s t:ByteArray} (h:s.toList=t.toList):s=t:=by
 have e:∀s:ByteArray,s.toList=s.data.toList:=fun s=>by
  have:=Lib.strOfNums_toList (bs s);rw [gh] at this;rw [this,bs,jZ]
 rw [e,e] at h;exact ByteArray.ext (Array.ext' h)
theorem rc (B B':Nat) (a a':Option Addr) (len len' cap cap':Nat) (zs ys:List Int) (w:World) (hz:Bys w B a len zs) (hy:Bys w B' a' len' ys) :
 Calls Tryz.prog 88 #[.slice a len cap,.slice a' len' cap'] w fun r w'=>r=.returned (.bool (decide (zs=ys)))∧w=w':=by
 have h1:=hz.conv cap;have h2:=hy.conv cap';have HE:=hZz (mK hz.2.1 hy.2.1);clear hz hy;go_enter Tryz.func88,Tryz.ntmps88
 have HB:Hid (((strOfNums zs).toList==(strOfNums ys).toList)=decide (zs=ys)):=hZz (by
  by_cases h:zs=ys
  ·subst h;simp
  ·have h3:¬(strOfNums zs).toList=(strOfNums ys).toList:=fun e=>h (HE.out.1 (lG e));simp [h,h3])
 go_wp2;go_ret;exact ⟨bO HB.out,rfl⟩
theorem cq (base:Nat) (v:Value) (m:Nat) (zs:List Int) (x:Int) (n:Nat) (w:World) (ho:w.ownsRow base 5 1 v m (zs.map (Value.int .u8))) (hbase:base≤w.heap.size) (hm:m+n≤1000000) (x0:0≤x) (x1:x≤18446744073709551615) :
 Calls Tryz.prog 82 #[v,.int .u64 x,.int .i64 n] w fun r w'=>∃v',r=.returned v'∧w'.ownsRow base 5 1 v' (m+n) ((zs++ai x n).map (Value.int .u8))∧Below base w w':=by
 obtain ⟨i0,hi,hz0,hz1,hz2⟩:=info_parts aM;have HO:=hZz ho;have HI:=hZz hi;have HZ0:=hZz hz0;have HZ1:=hZz hz1;have HZ2:=hZz hz2;have hni:(n:Int)≤1000000:=by omega
 clear ho hi hz0 hz1 hz2;go_enter Tryz.func82,Tryz.ntmps82
 go_wp2;go_loopw [0,1,7] (fun v' y i wr=>∃k:Nat,k≤n∧i=.int .i64 k∧y=.int .u64 (x / 256 ^ k)∧wr.ownsRow base 5 1 v' (m+k) ((zs++ai x k).map (Value.int .u8))∧Below base w wr) (fun _ _ i _=>n-(intOf i).toNat)
 case atStart=>exact ⟨0,Nat.zero_le _,rfl,by simp,by simpa [ai] using HO.out,Below.refl _ _⟩
 case round=>
  obtain ⟨k,hk,rfl,rfl,hown,hbel⟩:=hrel;by_cases hlt:k<n
  ·have hdv:=hZz (fZ x k);have hdg:Hid (ai x (k+1)=ai x k++[x / 256 ^ k % 256]):=hZz rfl;have hy0:0≤x / 256 ^ k:=Int.ediv_nonneg x0 (Int.pow_nonneg dZc);have hy1:x / 256 ^ k≤18446744073709551615:=Int.le_trans (Int.ediv_le_self _ x0) x1;generalize x / 256 ^ k=y at hdv hdg hy0 hy1⊢;have hsz:=hbel.size;have HOWN:=hZz hown;clear hown;go_wp2_with (at_builtin;refine wpList_append_own _ rfl _ _ 22 rfl base 5 i0 (.int .u8 0) 1 1 Tryz.underlying22 HI.out HZ0.out HZ1.out HZ2.out rfl dZc _ (m+k) _ rfl (HOWN.out.alloc _) ⟨wr.heap.size,0,none⟩ 1 1 [.int .u8 (y % 256)] rfl rfl ?c1 ?c2 ?c3 ?c4 ?c5 ?_);case c1=>exact cell_one_new _ _ _
   case c2=>intro u hu;obtain rfl:=List.mem_singleton.1 hu;rfl
   case c3=>unfold maxLen;omega
   case c4=>omega
   case c5=>simp;omega
   intro v2 w2 hown2 hg2 hnil2;have hb2:Below base w w2:=(hbel.alloc oZm _).grown hg2 (by simp;omega) (fun q e=>(HOWN.out.lt q e).1);have HO2:Hid (w2.ownsRow base 5 1 v2 (m+(k+1)) ((zs++ai x (k+1)).map (Value.int .u8))):=hZz (by
    rw [hdg.out];simpa only [List.map_append,List.append_assoc,List.map_cons,List.map_nil,Nat.add_assoc] using hown2)
   clear hown2 hg2 hnil2 hbel;go_wp2;go_roundw
   case rel=>exact ⟨k+1,by omega,by go_num,by rw [hdv.out],HO2.out,hb2⟩
   case measure=>simp [intOf];omega
  ·obtain rfl:k=n:=by omega
   have HOW:=hZz hown;clear hown;go_wp2;go_ret;exact ⟨_,rfl,HOW.out,hbel⟩
theorem rx:ai 0 12=ai 0 8++ai 0 4:=by decide
theorem tS:ai 0 6=ai 0 2++(ai 0 2++ai 0 2):=by decide
theorem pF (k e s c:Int) (w:World) (k0:2≤k) (k1:k≤4) :
 Calls Tryz.prog 82 #[.slice (some ⟨w.heap.size+1,0,none⟩) 16 16,.int .u64 k,.int .i64 2]
  ((w.alloc (.cells #[.int .i64 k,.int .u64 e,.int .u64 s,.int .i64 c] 36)).alloc (.cells #[.int .u8 127,.int .u8 69,.int .u8 76,.int .u8 70,.int .u8 2,.int .u8 1,.int .u8 1,.int .u8 0,.int .u8 0,.int .u8 0,.int .u8 0,.int .u8 0,.int .u8 0,.int .u8 0,.int .u8 0,.int .u8 0] 5)) fun r w'=>
  ∃v',r=.returned v'∧w'.ownsRow (w.heap.size+1) 5 1 v' 18 ((hd0++ai k 2).map (Value.int .u8))∧Below w.heap.size w w'∧w.heap.size+2≤w'.heap.size∧
   w'.cell? ⟨w.heap.size,0,none⟩=some (.int .i64 k)∧w'.cell? ⟨w.heap.size,1,none⟩=some (.int .u64 e)∧w'.cell? ⟨w.heap.size,2,none⟩=some (.int .u64 s)∧w'.cell? ⟨w.heap.size,3,none⟩=some (.int .i64 c):=by
 have ho:=jE (w.alloc (.cells #[.int .i64 k,.int .u64 e,.int .u64 s,.int .i64 c] 36)) (w.heap.size+1) 5 (hd0.map (Value.int .u8)) (by simp) dZc;have hb0:=(((Below.refl w.heap.size w).alloc (lZr _) (.cells #[.int .i64 k,.int .u64 e,.int .u64 s,.int .i64 c] 36)).alloc (by simp) (.cells (hd0.map (Value.int .u8)).toArray 5))
 have hsz:((w.alloc (.cells #[.int .i64 k,.int .u64 e,.int .u64 s,.int .i64 c] 36)).alloc (.cells (hd0.map (Value.int .u8)).toArray 5)).heap.size=w.heap.size+2:=by simp
 have q0:((w.alloc (.cells #[.int .i64 k,.int .u64 e,.int .u64 s,.int .i64 c] 36)).alloc (.cells (hd0.map (Value.int .u8)).toArray 5)).cell? ⟨w.heap.size,0,none⟩=some (.int .i64 k):=by simp [World.cell?_alloc_past,World.cell?_alloc_at]
 have q1:((w.alloc (.cells #[.int .i64 k,.int .u64 e,.int .u64 s,.int .i64 c] 36)).alloc (.cells (hd0.map (Value.int .u8)).toArray 5)).cell? ⟨w.heap.size,1,none⟩=some (.int .u64 e):=by simp [World.cell?_alloc_past,World.cell?_alloc_at]
 have q2:((w.alloc (.cells #[.int .i64 k,.int .u64 e,.int .u64 s,.int .i64 c] 36)).alloc (.cells (hd0.map (Value.int .u8)).toArray 5)).cell? ⟨w.heap.size,2,none⟩=some (.int .u64 s):=by simp [World.cell?_alloc_past,World.cell?_alloc_at]
 have q3:((w.alloc (.cells #[.int .i64 k,.int .u64 e,.int .u64 s,.int .i64 c] 36)).alloc (.cells (hd0.map (Value.int .u8)).toArray 5)).cell? ⟨w.heap.size,3,none⟩=some (.int .i64 c):=by simp [World.cell?_alloc_past,World.cell?_alloc_at]
 rw [World.size_alloc] at ho;refine (cq (w.heap.size+1) _ 16 hd0 k 2 _ ho oZm dZc oZm oZm).mono ?_;rintro r w' ⟨v',hr,ho',hb'⟩;exact ⟨v',hr,ho',hb0.trans (hb'.mono (Nat.le_succ _)),by rw [←hsz];exact hb'.size,(hb'.cell (p:=⟨w.heap.size,0,none⟩) (Nat.lt_succ_self _)).trans q0,(hb'.cell (p:=⟨w.heap.size,1,none⟩) (Nat.lt_succ_self _)).trans q1,(hb'.cell (p:=⟨w.heap.size,2,none⟩) (Nat.lt_succ_self _)).trans q2,(hb'.cell (p:=⟨w.heap.size,3,none⟩) (Nat.lt_succ_self _)).trans q3⟩
theorem pG (k e s c:Int) (w:World) (h:dY k c=true) (e0:0≤e) (e1:e≤18446744073709551615) (s0:0≤s) (s1:s≤18446744073709551615) :
 Calls Tryz.prog 38 #[cU k e s c] w fun r w'=>(∃u,r=.returned (.tuple #[u,.int .i64 0])∧w'.ownsRow w.heap.size 5 1 u 64 ((enc k e s c).map (Value.int .u8)))∧Below w.heap.size w w':=by
 obtain ⟨k0,k1,c0,c1⟩:=dF.1 h;clear h;unfold cU;go_enter Tryz.func38,Tryz.ntmps38
 go_wp2_with (go_at_call 82;refine (pF k e s c w k0 k1).mono ?_);rintro r w1 ⟨v1,rfl,ho,hb,hs,q0,q1,q2,q3⟩;have HO1:=hZz ho;have HBW:=hZz hb;have HS1:=hZz hs;have HB1:Hid (Below (w.heap.size+1) w1 w1):=hZz (Below.refl _ _);have HQ:Hid (∀w',Below (w.heap.size+1) w1 w'→w'.cell? ⟨w.heap.size,0,none⟩=some (.int .i64 k)∧w'.cell? ⟨w.heap.size,1,none⟩=some (.int .u64 e)∧w'.cell? ⟨w.heap.size,2,none⟩=some (.int .u64 s)∧w'.cell? ⟨w.heap.size,3,none⟩=some (.int .i64 c)):=hZz (fun w' hb=>
  ⟨(hb.cell (p:=⟨w.heap.size,0,none⟩) (Nat.lt_succ_self _)).trans q0,(hb.cell (p:=⟨w.heap.size,1,none⟩) (Nat.lt_succ_self _)).trans q1,(hb.cell (p:=⟨w.heap.size,2,none⟩) (Nat.lt_succ_self _)).trans q2,(hb.cell (p:=⟨w.heap.size,3,none⟩) (Nat.lt_succ_self _)).trans q3⟩)
 clear ho hb hs;go_wp2_with (go_at_call 82;refine (cq (w.heap.size+1) _ _ _ 19823 2 _ HO1.out (by have:=HS1.out;have:=HB1.out.size;omega) dZc dZc dZc).mono ?_);rintro r w2 ⟨v2,rfl,ho,hb⟩;have HO2:=hZz ho;have HB2:=hZz (HB1.out.trans hb);have ⟨q0,q1,q2,q3⟩:=HQ.out _ HB2.out;clear ho hb;go_wp2_with (go_at_call 82;refine (cq (w.heap.size+1) _ _ _ 1 4 _ HO2.out (by have:=HS1.out;have:=HB2.out.size;omega) dZc dZc dZc).mono ?_);rintro r w3 ⟨v3,rfl,ho,hb⟩;have HO3:=hZz ho;have HB3:=hZz (HB2.out.trans hb);have ⟨q0,q1,q2,q3⟩:=HQ.out _ HB3.out;clear ho hb;go_wp2_with (go_at_call 82;refine (cq (w.heap.size+1) _ _ _ e 8 _ HO3.out (by have:=HS1.out;have:=HB3.out.size;omega) dZc e0 e1).mono ?_);rintro r w4 ⟨v4,rfl,ho,hb⟩;have HO4:=hZz ho;have HB4:=hZz (HB3.out.trans hb);have ⟨q0,q1,q2,q3⟩:=HQ.out _ HB4.out;clear ho hb;go_wp2_with (go_at_call 82;refine (cq (w.heap.size+1) _ _ _ s 8 _ HO4.out (by have:=HS1.out;have:=HB4.out.size;omega) dZc s0 s1).mono ?_);rintro r w5 ⟨v5,rfl,ho,hb⟩;have HO5:=hZz ho;have HB5:=hZz (HB4.out.trans hb);have ⟨q0,q1,q2,q3⟩:=HQ.out _ HB5.out;clear ho hb;go_wp2_with (go_at_call 82;refine (cq (w.heap.size+1) _ _ _ 0 12 _ HO5.out (by have:=HS1.out;have:=HB5.out.size;omega) dZc dZc dZc).mono ?_);rintro r w6 ⟨v6,rfl,ho,hb⟩;have HO6:=hZz ho;have HB6:=hZz (HB5.out.trans hb);have ⟨q0,q1,q2,q3⟩:=HQ.out _ HB6.out;clear ho hb;go_wp2_with (go_at_call 82;refine (cq (w.heap.size+1) _ _ _ 64 2 _ HO6.out (by have:=HS1.out;have:=HB6.out.size;omega) dZc dZc dZc).mono ?_);rintro r w7 ⟨v7,rfl,ho,hb⟩;have HO7:=hZz ho;have HB7:=hZz (HB6.out.trans hb);have ⟨q0,q1,q2,q3⟩:=HQ.out _ HB7.out;clear ho hb;go_wp2_with (go_at_call 82;refine (cq (w.heap.size+1) _ _ _ 56 2 _ HO7.out (by have:=HS1.out;have:=HB7.out.size;omega) dZc dZc dZc).mono ?_);rintro r w8 ⟨v8,rfl,ho,hb⟩;have HO8:=hZz ho;have HB8:=hZz (HB7.out.trans hb);have ⟨q0,q1,q2,q3⟩:=HQ.out _ HB8.out;clear ho hb;go_wp2_with (go_at_call 82;refine (cq (w.heap.size+1) _ _ _ c 2 _ HO8.out (by have:=HS1.out;have:=HB8.out.size;omega) dZc oZm oZm).mono ?_);rintro r w9 ⟨v9,rfl,ho,hb⟩;have HO9:=hZz ho;have HB9:=hZz (HB8.out.trans hb);have ⟨q0,q1,q2,q3⟩:=HQ.out _ HB9.out;clear ho hb;go_wp2_with (go_at_call 82;refine (cq (w.heap.size+1) _ _ _ 0 6 _ HO9.out (by have:=HS1.out;have:=HB9.out.size;omega) dZc dZc dZc).mono ?_);rintro r w10 ⟨v10,rfl,ho,hb⟩;have HO10:=hZz ho;have HB10:=hZz (HB9.out.trans hb);have ⟨q0,q1,q2,q3⟩:=HQ.out _ HB10.out;clear ho hb;have HF:Hid (w10.ownsRow w.heap.size 5 1 v10 64 ((enc k e s c).map (Value.int .u8))):=hZz (by
  have h1:=bL HO10.out (Nat.le_succ w.heap.size);rw [tS,rx] at h1;simpa only [enc,List.append_assoc] using h1)
 go_wp2;go_ret2;exact ⟨⟨_,rfl,HF.out⟩,HBW.out.trans (HB10.out.mono (Nat.le_succ _))⟩

theorem xg {L:List Sg} {k:Nat} (h:¬((L.getD k sg0).ty=2∨(L.getD k sg0).ty=7)∨(L.getD k sg0).fi=0):at2 L k=0:=by
 unfold at2 tI;rw [if_neg];rintro ⟨h1,h2⟩;rcases h with h | h
 ·exact h h1
 ·exact h2 h
theorem vG {L:List Sg} {k:Nat} (h:(L.getD k sg0).ty=2∨(L.getD k sg0).ty=7) (hf:(L.getD k sg0).fi≠0):at2 L k=if (L.find? (inB (L.getD k sg0))).isSome=true then 0 else 11:=by
 unfold at2 tI;rw [if_pos ⟨h,hf⟩,ou]
theorem lT {f:Nat→Int} {k:Nat} (h:∀j,j<k→f j=0) (hk:f k=0):∀j,j<k+1→f j=0:=by
 intro j hj;by_cases e:j=k
 ·subst e;exact hk
 ·exact h j oZm
theorem oY (B:Nat) (a:Option Addr) (len cap:Nat) (L:List Sg) (w:World) (hs:Sgs w B a len L) (hB:B≤w.heap.size) (hl:(len:Int)≤9223372036854775807) :
 Calls Tryz.prog 92 #[.slice a len cap] w fun e w'=>e=.returned (.int .i64 (ci (at2 L) 0 L.length))∧Below w.heap.size w w':=by
 have hmf:∀(fn:Fn) (first cap:Array Value) (w:World),(Instr.makeFunc fn first cap).run Tryz.prog w=.ok (.func fn first cap) w:=fun _ _ _ _=>rfl;obtain ⟨r,hr⟩:∃r,ci (at2 L) 0 L.length=r:=⟨_,rfl⟩
 rw [hr];have HR:=hZz hr;have HS:=hZz hs;clear hr hs;go_enter Tryz.func92,Tryz.ntmps92
 go_wp2;go_loopw [4,5,6,9] (fun _ _ _ i wr=>∃k:Nat,k≤len∧i=.int .i64 k∧(∀j,j<k→at2 L j=0)∧Below w.heap.size w wr) (fun _ _ _ i _=>len-(intOf i).toNat)
 case atStart=>exact ⟨0,Nat.zero_le _,rfl,fun j hj=>absurd hj oZm,Below.refl _ _⟩
 case round=>
  obtain ⟨k,hk,rfl,hno,hbel⟩:=hrel;by_cases hlt:k<len
  ·obtain ⟨b,off,rfl,hbB,hcell⟩:=HS.out.hc oZm;have hsev:=(hcell k hlt).below (hbel.mono hB) hbB;have hok:=HS.out.okAt hlt;have hLl:=HS.out.hl;have HY:=hZz (vG (L:=L) (k:=k));have HN:=hZz (xg (L:=L) (k:=k));have HNO:=hZz (lT hno);have HRE:Hid (at2 L k≠0→r=at2 L k):=hZz (fun h=>by
    rw [←HR.out];exact gL (fun j _ hj=>hno j hj) (Nat.zero_le _) oZm h)
   obtain ⟨s,hsd⟩:∃s,L.getD k sg0=s:=⟨_,rfl⟩
   rw [hsd] at hsev hok HY HN;have HOK:=hZz hok;have HB2:Hid (∀o,Below w.heap.size w (wr.alloc o)):=hZz (fun o=>hbel.alloc hbel.size o);have hbs:=hbel.size;have HC:=hZz (tA B (some ⟨b,off,none⟩) len cap L (inB s) wr.heap.size (wr.alloc (.cells s.cells 65)) (HS.out.below ((HB2.out _).mono hB)) (by simp;omega) hl (fun q w1 hq h1=>
    nM s q wr.heap.size w1 hok hq ((Blk.new wr _ _).later h1).sev))
   clear hcell hsd hno hbel hok;obtain ⟨c0,c1,c2,c3,c4,c5,c6⟩:=hsev;obtain ⟨ty,fl,ot,va,fi,me,al⟩:=s;simp only at c0 c1 c2 c3 c4 c5 c6;by_cases hk7:ty=2∨ty=7
   ·by_cases hfi:fi=0
    ·have hn:=hZz (HNO.out (HN.out (.inr hfi)));subst hfi;rcases hk7 with rfl | rfl
     all_goals
      clear HY HN HNO HRE HC;go_wp2;go_roundw
      case rel=>exact ⟨k+1,by omega,by go_num,hn.out,HB2.out _⟩
      case measure=>simp [intOf];omega
    ·have hy:=HY.out hk7 hfi;have hf0:(fi==0)=false:=by simpa using hfi
     obtain ⟨q,hq⟩:∃q,(L.find? (inB ⟨ty,fl,ot,va,fi,me,al⟩)).isSome=q:=⟨_,rfl⟩
     have hc:=HC.out;rw [hq] at hy hc;rw [jv] at hc;generalize (L.find? (inB ⟨ty,fl,ot,va,fi,me,al⟩)).getD sg0=s2 at hc;obtain ⟨ty2,fl2,ot2,va2,fi2,me2,al2⟩:=s2;have HC2:=hZz hc;clear hc HC HY HN hq;unfold Sg.val Sg.cells at HC2;simp only at HC2;cases q with
     | true=>
       have hn:=hZz (HNO.out (by rw [hy];rfl));rcases hk7 with rfl | rfl
       all_goals
        clear HRE HNO hy;go_wp2_with fail;refine HC2.out.mono ?_;rintro e w2 ⟨rfl,hb2⟩;have hbb:=(HB2.out _).trans (hb2.mono (HB2.out _).size);clear hb2;go_wp2;go_roundw
        case rel=>exact ⟨k+1,by omega,by go_num,hn.out,hbb.alloc hbb.size _⟩
        case measure=>simp [intOf];omega
     | false=>
       have hr11:r=11:=by
        have h11:at2 L k=11:=by rw [hy];rfl
        rw [HRE.out (by rw [h11];decide),h11]
       subst hr11;rcases hk7 with rfl | rfl
       all_goals
        clear HRE HNO hy;go_wp2_with fail;refine HC2.out.mono ?_;rintro e w2 ⟨rfl,hb2⟩;have hbb:=(HB2.out _).trans (hb2.mono (HB2.out _).size);clear hb2;go_wp2;go_ret;exact ⟨rfl,hbb.alloc hbb.size _⟩
   ·have hn:=hZz (HNO.out (HN.out (.inl hk7)));have h2:(ty != 2)=true:=by simp;omega
    have h7:(ty != 7)=true:=by simp;omega
    clear HY HN HNO HRE HC hk7;go_wp2;go_roundw
    case rel=>exact ⟨k+1,by omega,by go_num,hn.out,HB2.out _⟩
    case measure=>simp [intOf];omega
  ·obtain rfl:k=len:=by omega
   have hr0:r=0:=by
    rw [←HR.out];exact gG (fun j _ hj=>hno j (by have:=HS.out.hl;omega))
   subst hr0;go_wp2;go_ret;exact ⟨rfl,hbel⟩
theorem rm {L:List Sg} {size:Int} {k:Nat} (h:dR (L.getD k sg0) size≠0):at1 L size k=dR (L.getD k sg0) size:=by
 unfold at1 lC;rw [if_pos h]
theorem sF {L:List Sg} {size:Int} {k:Nat} (h:dR (L.getD k sg0) size=0) (h1:(L.getD k sg0).ty=1):at1 L size k=if kz (L.getD k sg0)<eQ (L.take k) then 12 else 0:=by
 unfold at1 lC;rw [if_neg oZm,if_pos h1]
theorem uJ {L:List Sg} {size:Int} {k:Nat} (h:dR (L.getD k sg0) size=0) (h1:(L.getD k sg0).ty=2∨(L.getD k sg0).ty=7):at1 L size k=if ((L.take k).find? (bC (L.getD k sg0).ty)).isSome=true then 12 else 0:=by
 unfold at1 lC;rw [if_neg oZm,if_neg oZm,if_pos h1,ou];rfl
theorem sx {L:List Sg} {size:Int} {k:Nat} (h:dR (L.getD k sg0) size=0) (h1:(L.getD k sg0).ty≠1) (h2:(L.getD k sg0).ty≠2) (h7:(L.getD k sg0).ty≠7):at1 L size k=0:=by
 unfold at1 lC;rw [if_neg oZm,if_neg h1,if_neg (by omega)]
theorem mo {L:List Sg} {k:Nat} (h:k<L.length):eQ (L.take (k+1))=if (L.getD k sg0).ty=1 then gq (L.getD k sg0) else eQ (L.take k):=by
 rw [take_snoc h,mu]
theorem tO {L:List Sg} {size r:Int} {k:Nat} (hr:bZ L size=r) (h:∀j,j<k→at1 L size j=0) (hk:k<L.length) (he:at1 L size k≠0):r=at1 L size k:=by
 rw [←hr,uX h hk he]
theorem pU (B:Nat) (a:Option Addr) (len cap:Nat) (L:List Sg) (size:Int) (w:World) (hs:Sgs w B a len L) (hB:B≤w.heap.size) (hcap:len≤cap) (hcm:(cap:Int)≤9223372036854775807) (z0:0≤size) (z1:size≤18446744073709551615) :
 Calls Tryz.prog 47 #[.slice a len cap,.int .u64 size] w fun e w'=>e=.returned (.int .i64 (bZ L size))∧Below w.heap.size w w':=by
 obtain ⟨r,hr⟩:∃r,bZ L size=r:=⟨_,rfl⟩
 rw [hr];have HR:=hZz hr;have HS:=hZz hs;clear hr hs;go_enter Tryz.func47,Tryz.ntmps47
 go_wp2;go_loopw [5,6,7,8,9,10,11,12,15] (fun v _ _ _ _ _ _ _ i wr=>∃k:Nat,k≤len∧i=.int .i64 k∧v=.int .u64 (eQ (L.take k))∧(∀j,j<k→at1 L size j=0)∧Below w.heap.size w wr) (fun _ _ _ _ _ _ _ _ i _=>len-(intOf i).toNat)
 case atStart=>exact ⟨0,Nat.zero_le _,rfl,rfl,fun j hj=>absurd hj oZm,Below.refl _ _⟩
 case round=>
  obtain ⟨k,hk,rfl,rfl,hno,hbel⟩:=hrel;by_cases hlt:k<len
  ·obtain ⟨b,off,rfl,hbB,hcell⟩:=HS.out.hc oZm;have hsev:=(hcell k hlt).below (hbel.mono hB) hbB;have hok:=HS.out.okAt hlt;have hLl:=HS.out.hl;have HA:=hZz (rm (L:=L) (size:=size) (k:=k));have HL:=hZz (sF (L:=L) (size:=size) (k:=k));have HO:=hZz (uJ (L:=L) (size:=size) (k:=k));have HE:=hZz (sx (L:=L) (size:=size) (k:=k));have HLE:=hZz (mo (L:=L) (k:=k) oZm);have HNO:=hZz (lT hno);have HRE:=hZz (tO HR.out hno oZm);have HF:Hid (∀t w1,Below w.heap.size w w1→Calls Tryz.prog 48 #[.slice (some ⟨b,off,none⟩) k cap,.int .u32 t] w1 fun e w'=>e=.returned (.tuple #[dE ((L.take k).find? (bC t)),.bool ((L.take k).find? (bC t)).isSome])∧Below w1.heap.size w1 w'):=hZz (fun t w1 h1=>
    ie B _ k cap (L.take k) t w1 ((HS.out.below (h1.mono hB)).front oZm) (by have:=h1.size;omega) oZm)
   obtain ⟨s,hsd⟩:∃s,L.getD k sg0=s:=⟨_,rfl⟩
   obtain ⟨le,hle⟩:∃le,eQ (L.take k)=le:=⟨_,rfl⟩
   rw [hsd] at hsev hok HA HL HO HE HLE;rw [hle] at HL HLE⊢;have HB2:Hid (∀o,Below w.heap.size w (wr.alloc o)):=hZz (fun o=>hbel.alloc hbel.size o);have hbs:=hbel.size;have HCA:=hZz (fun w1=>rB s size w1 hok z0 z1);have HPA:=hZz (fun h w1=>rO s w1 hok h);have HSZ:=hZz hlt;clear hcell hsd hno hbel hok hle;obtain ⟨c0,c1,c2,c3,c4,c5,c6⟩:=hsev;obtain ⟨e,he⟩:∃e,dR s size=e:=⟨_,rfl⟩
   rw [he] at HA HCA HL HO HE;by_cases he0:e=0
   ·subst he0;have hal:=uu he;have HV:=hZz hal.va;clear he hal HA;obtain ⟨ty,fl,ot,va,fi,me,al⟩:=s;simp only at c0 c1 c2 c3 c4 c5 c6;by_cases h1:ty=1
    ·have hll:=HL.out rfl h1;have hv:=HV.out (by show ty≠0;omega);have HP:=hZz (HPA.out hv);have HLE':=HLE.out;rw [if_pos (show (⟨ty,fl,ot,va,fi,me,al⟩:Sg).ty=1 from h1)] at HLE';subst h1;generalize kz ⟨1,fl,ot,va,fi,me,al⟩=fs at hll HP;generalize gq ⟨1,fl,ot,va,fi,me,al⟩=bh at HLE' HP;clear HF HL HO HE HPA HV hv;unfold Sg.val at *;simp only at HCA HP;by_cases hov:fs<le
     ·rw [if_pos hov] at hll;have hr2:=HRE.out (by rw [hll];decide);rw [hll] at hr2;subst hr2;clear HRE HNO hll HLE HLE';go_wp2_with fail;refine (HCA.out _).mono ?_;rintro e w2 ⟨rfl,hb2⟩;obtain ⟨q0,q1,q2,q3,q4,q5,q6⟩:=((Blk.new wr _ _).later hb2).c7;have HB3:=hZz ((HB2.out _).trans (hb2.mono (HB2.out _).size));clear hb2;go_wp2_with fail;refine (HP.out _).mono ?_;rintro e w3 ⟨rfl,hb3⟩;have HB4:=hZz (HB3.out.trans (hb3.mono HB3.out.size));clear hb3;go_wp2;go_ret;exact ⟨rfl,HB4.out⟩
     ·rw [if_neg hov] at hll;have hn:=hZz (HNO.out hll);clear HRE HNO hll;go_wp2_with fail;refine (HCA.out _).mono ?_;rintro e w2 ⟨rfl,hb2⟩;obtain ⟨q0,q1,q2,q3,q4,q5,q6⟩:=((Blk.new wr _ _).later hb2).c7;have HB3:=hZz ((HB2.out _).trans (hb2.mono (HB2.out _).size));clear hb2;go_wp2_with fail;refine (HP.out _).mono ?_;rintro e w3 ⟨rfl,hb3⟩;have HB4:=hZz (HB3.out.trans (hb3.mono HB3.out.size));clear hb3;go_wp2;go_roundw
      case rel=>exact ⟨k+1,by omega,by go_num,by rw [HLE'],hn.out,HB4.out⟩
      case measure=>simp [intOf];omega
    ·have HLE':=HLE.out;rw [if_neg (show ¬(⟨ty,fl,ot,va,fi,me,al⟩:Sg).ty=1 from h1)] at HLE';by_cases h27:ty=2∨ty=7
     ·have hoo:=HO.out rfl h27;have HFT:=hZz (HF.out ty);simp only at hoo;obtain ⟨q,hq⟩:∃q,((L.take k).find? (bC ty)).isSome=q:=⟨_,rfl⟩
      rw [hq,jv] at HFT;rw [hq] at hoo;generalize ((L.take k).find? (bC ty)).getD sg0=s2 at HFT;obtain ⟨ty2,fl2,ot2,va2,fi2,me2,al2⟩:=s2;clear HF HL HO HE HPA HV hq;unfold Sg.val at *;simp only at HCA HFT;have HOO:=hZz hoo;rcases h27 with rfl | rfl
      all_goals
       clear hoo;go_wp2_with fail;refine (HCA.out _).mono ?_;rintro e w2 ⟨rfl,hb2⟩;obtain ⟨q0,q1,q2,q3,q4,q5,q6⟩:=((Blk.new wr _ _).later hb2).c7;have hqa:=fun o=>(((Blk.new wr _ _).later hb2).alloc o).c7.1;have hqb:=fun o=>((((Blk.new wr _ _).later hb2).drew).alloc o).c7.1;have HB3:=hZz ((HB2.out _).trans (hb2.mono (HB2.out _).size));clear hb2;go_wp2;go_region_with (go_at_call 48;refine (HFT.out _ (by first | exact HB3.out.drew | exact HB3.out.drew.alloc HB3.out.size _)).mono ?_;rintro r2 w4 ⟨rfl,hb4⟩;(first | (have zb:Blk w4 w2.heap.size #[.int .u32 0,.int .u32 0,.int .u64 0,.int .u64 0,.int .u64 0,.int .u64 0,.int .u64 0] 65:=(Blk.new w2.drew _ _).later hb4;have zz:=zb.c7;have zf:=zb.f7;clear zb;obtain ⟨z0',z1',z2',z3',z4',z5',z6'⟩:=zz;obtain ⟨y0,y1,y2,y3,y4,y5,y6⟩:=zf) | skip);have HB5:Hid (Below w.heap.size w w4):=hZz (by first | exact HB3.out.drew.trans (hb4.mono HB3.out.size) | exact (HB3.out.drew.alloc HB3.out.size _).trans (hb4.mono (HB3.out.drew.alloc HB3.out.size _).size));clear hb4)
       all_goals
        cases q with
        | true=>
          have hoo:=HOO.out;rw [if_pos rfl] at hoo;have hr2:=HRE.out (by rw [hoo];decide);rw [hoo] at hr2;subst hr2;clear HRE HNO hoo HLE HLE' HOO;go_wp2;go_ret;exact ⟨rfl,by first | with_reducible exact HB5.out.alloc HB5.out.size _ | with_reducible exact (((((((HB5.out.setCell HB3.out.size _).setCell HB3.out.size _).setCell HB3.out.size _).setCell HB3.out.size _).setCell HB3.out.size _).setCell HB3.out.size _).setCell HB3.out.size _)⟩
        | false=>
          have hoo:=HOO.out;rw [if_neg (by decide)] at hoo;have hn:=hZz (HNO.out hoo);clear HRE HNO hoo HOO;go_wp2;go_roundw
          case rel=>exact ⟨k+1,by omega,by go_num,by rw [HLE'],hn.out,by first | with_reducible exact HB5.out.alloc HB5.out.size _ | with_reducible exact (((((((HB5.out.setCell HB3.out.size _).setCell HB3.out.size _).setCell HB3.out.size _).setCell HB3.out.size _).setCell HB3.out.size _).setCell HB3.out.size _).setCell HB3.out.size _)⟩
          case measure=>simp [intOf];omega
     ·have hn:=hZz (HNO.out (HE.out rfl h1 (fun h=>h27 (.inl h)) (fun h=>h27 (.inr h))));have h1':(ty==1)=false:=by simpa using h1
      have h2':(ty==2)=false:=by simp;omega
      have h7':(ty==7)=false:=by simp;omega
      clear HRE HNO HF HL HO HE HPA HV h27 h1;unfold Sg.val at *;simp only at HCA;go_wp2_with fail;refine (HCA.out _).mono ?_;rintro e w2 ⟨rfl,hb2⟩;obtain ⟨q0,q1,q2,q3,q4,q5,q6⟩:=((Blk.new wr _ _).later hb2).c7;have HB3:=hZz ((HB2.out _).trans (hb2.mono (HB2.out _).size));clear hb2;go_wp2;go_roundw
      case rel=>exact ⟨k+1,by omega,by go_num,by rw [HLE'],hn.out,HB3.out⟩
      case measure=>simp [intOf];omega
   ·have ha:=HA.out he0;have hr2:=HRE.out (by rw [ha];exact he0);rw [ha] at hr2;subst hr2;have he0':(r != 0)=true:=by simpa using he0
    obtain ⟨ty,fl,ot,va,fi,me,al⟩:=s;simp only at c0 c1 c2 c3 c4 c5 c6;clear HRE HNO HF HL HO HE HPA HA ha;unfold Sg.val at *;simp only at HCA;go_wp2_with fail;refine (HCA.out _).mono ?_;rintro e w2 ⟨rfl,hb2⟩;have HB3:=hZz ((HB2.out _).trans (hb2.mono (HB2.out _).size));clear hb2;go_wp2;go_ret;exact ⟨rfl,HB3.out⟩
  ·obtain rfl:k=len:=by omega
   have hLl:=HS.out.hl;have hrr:bZ L size=ci (at2 L) 0 L.length:=by
    unfold bZ;rw [gG (fun j _ hj=>hno j oZm),if_pos rfl]
   have HC:=hZz (oY B a k cap L wr (HS.out.below (hbel.mono hB)) (by have:=hbel.size;omega) oZm);rw [←hrr,HR.out] at HC;have HB3:=hZz hbel;clear hbel hno hrr;go_wp2_with fail;refine HC.out.mono ?_;rintro e w2 ⟨rfl,hb2⟩;have HB4:=hZz (HB3.out.trans (hb2.mono HB3.out.size));clear hb2;go_wp2;go_ret;exact ⟨rfl,HB4.out⟩


def jG (Z:Int×Im) (w:World) (e:Ending) (w':World):Prop:=
 (∃x:Iv,e=.returned (.tuple #[x.val,.int .i64 Z.1])∧x.Is w' w'.heap.size Z.2)∧Below w.heap.size w w'
def fX (P:Program) (ops:List Oper) (J:(Nat→Bool)→World→Prop) (n:Nat) (x:List Value) (d:List Deferred) (dsts:List Nat) (R:World→World→Prop) (F:Nat→Value→World→Prop):Nat→List Oper→Prop
 | _,[]=>True
 | i,o :: l=>(∀(L:Nat→Bool) (y:Nat→Value) (w:World),J L w→L i=false→(∀t,t ∉ dsts→y t=x.getD t undef)→(∀j,j∈cG o→L j=true∧(dsts.getD j 0<n→F j (y (dsts.getD j 0)) w))→
  (∀k q,ops[k]?=some q→L k=true→∀j,j∈cG q→L j=true)→(∀k,k<ops.length→L k=false→dsts.getD k 0<n→y (dsts.getD k 0)=x.getD (dsts.getD k 0) undef)→
  cf P o ⟨af n y,d⟩ w fun u w'=>R w w'∧(dsts.getD i 0<n→F i u w')∧J (upd L i) w')∧fX P ops J n x d dsts R F (i+1) l
theorem fX.get {P:Program} {ops:List Oper} {J:(Nat→Bool)→World→Prop} {n:Nat} {x:List Value} {d:List Deferred} {dsts:List Nat} {R:World→World→Prop} {F:Nat→Value→World→Prop} :
 ∀{l:List Oper} {k:Nat},fX P ops J n x d dsts R F k l→∀i o,l[i]?=some o→
  ∀(L:Nat→Bool) (y:Nat→Value) (w:World),J L w→L (k+i)=false→(∀t,t ∉ dsts→y t=x.getD t undef)→(∀j,j∈cG o→L j=true∧(dsts.getD j 0<n→F j (y (dsts.getD j 0)) w))→
   (∀k q,ops[k]?=some q→L k=true→∀j,j∈cG q→L j=true)→(∀k,k<ops.length→L k=false→dsts.getD k 0<n→y (dsts.getD k 0)=x.getD (dsts.getD k 0) undef)→
   cf P o ⟨af n y,d⟩ w fun u w'=>R w w'∧(dsts.getD (k+i) 0<n→F (k+i) u w')∧J (upd L (k+i)) w'
 | [],_,_,_,_,h=>by simp at h
 | o :: l,k,hs,0,o',h=>by
   simp only [List.getElem?_cons_zero,Option.some.injEq] at h;subst h;exact hs.1
 | o :: l,k,hs,i+1,o',h=>by
   rw [List.getElem?_cons_succ] at h;have:=hs.2.get i o' h
   rwa [show k+1+i=k+(i+1) from by omega] at this
section
variable {P:Program} {Q:Exit→Act→World→Prop}
theorem oL {l:List Oper} {x:List Value} {d:List Deferred} (dsts:List Nat) (R:World→World→Prop) (F:Nat→Value→World→Prop) (J:(Nat→Bool)→World→Prop)
 (hmono:∀i u w w',F i u w→R w w'→F i u w') (hJ:∀L L' w,(∀i,i<l.length→L i=L' i)→J L w→J L' w)
 (hok:fV l dsts x.length=true) (hsteps:fX P l J x.length x d dsts R F 0 l)
 (hend:∀(v:Nat→Value) (L:Nat→Bool) (w:World),J L w→(∀i,i<l.length→L i=true)→(∀i,i<l.length→dsts.getD i 0<x.length→F i (v i) w)→Q .normal ⟨(aO v 0 dsts x).toArray,d⟩ w) :
 ∀(fuel:Nat) (listed:Array Bool) (y:Nat→Value) (w:World),left listed≤fuel→listed.size=l.length→(∀t,t ∉ dsts→y t=x.getD t undef)→
  (∀i,listed[i]?=some true→dsts.getD i 0<x.length→F i (y (dsts.getD i 0)) w)→J (fun i=>listed.getD i false) w→
  (∀k q,l[k]?=some q→listed.getD k false=true→∀j,j∈cG q→listed.getD j false=true)→(∀k,k<l.length→listed.getD k false=false→dsts.getD k 0<x.length→y (dsts.getD k 0)=x.getD (dsts.getD k 0) undef)→wpAny P .any l.toArray Q fuel listed ⟨af x.length y,d⟩ w:=by
 simp only [fV,Bool.and_eq_true,decide_eq_true_eq,List.all_eq_true,List.mem_range] at hok;obtain ⟨⟨⟨hdl,hnd⟩,hfm⟩,hord⟩:=hok;have fin:∀(listed:Array Bool) (y:Nat→Value) (w:World),listed.size=l.length→(∀t,t ∉ dsts→y t=x.getD t undef)→
  (∀i,listed[i]?=some true→dsts.getD i 0<x.length→F i (y (dsts.getD i 0)) w)→J (fun i=>listed.getD i false) w→(∀i,i<l.length→listed[i]?=some true)→Q .normal ⟨af x.length y,d⟩ w:=by
  intro listed y w hsz hy hF hb hall;have h:=hend (fun i=>y (dsts.getD i 0)) _ w hb (fun i hi=>by rw [Array.getD_eq_getD_getElem?,hall i hi];rfl) (fun i hi hn=>hF i (hall i hi) hn);have e:(aO (fun i=>y (dsts.getD i 0)) 0 dsts x).toArray=af x.length y:=by
   obtain ⟨h1,h2,h3⟩:=fJ (fun i=>y (dsts.getD i 0)) dsts 0 x hnd;apply Array.ext_getElem?
   intro t;rw [List.getElem?_toArray];by_cases ht:t<x.length
   ·rw [aS _ _ _ ht];by_cases hm:t∈dsts
    ·obtain ⟨j,hj,hjt⟩:=List.getElem_of_mem hm;have hj':dsts[j]?=some t:=by rw [gZg hj,hjt]
     have hjd:dsts.getD j 0=t:=by rw [gZe,hj'];rfl
     rw [h2 j t hj' ht,Nat.zero_add];simp only [hjd]
    ·rw [h3 t hm,hy t hm,gZe,gZg ht];rfl
   ·rw [List.getElem?_eq_none oZm,Array.getElem?_eq_none (by rw [aQ];omega)]
  rw [e] at h;exact h
 intro fuel;induction fuel with
 | zero=>
   intro listed y w hf hsz hy hF hb hcl hun;have hall:∀i,i<l.length→listed[i]?=some true:=fun i hi=>by
    have:=eX listed.toList (by unfold left at hf;omega) i (by rw [Array.length_toList,hsz];exact hi);simpa using this
   refine ⟨?_,fin listed y w hsz hy hF hb hall⟩;apply List.eq_nil_iff_forall_not_mem.2
   intro j hj;obtain ⟨h0,o,ho,_⟩:=mem_ready.1 hj;have hjl:j<l.length:=by
    have:=(Array.getElem?_eq_some_iff.1 ho).1;simpa using this
   rw [Array.getD_eq_getD_getElem?,hall j hjl] at h0;cases h0
 | succ fuel ih=>
   intro listed y w hf hsz hy hF hb hcl hun;refine ⟨fun hr=>?_,fun i hi=>?_⟩
   ·refine fin listed y w hsz hy hF hb ?_;intro i;induction i using Nat.strongRecOn with
    | ind i ihi=>
      intro hi;cases hli:listed[i]? with
      | none=>rw [Array.getElem?_eq_none_iff] at hli;omega
      | some b=>
        cases b with
        | true=>rfl
        | false=>
          exfalso
          have:i∈Region.ready .any l.toArray listed:=by
           refine mem_ready.2 ⟨by rw [Array.getD_eq_getD_getElem?,hli];rfl,l[i],by rw [List.getElem?_toArray,gZg hi],fun e he hbe=>?_⟩;have h1:=hord i hi;rw [gZg hi] at h1;have h2:=List.all_eq_true.1 h1 e (by simpa using he);rw [hbe] at h2;have h3:e.on<i:=by simpa using h2
           rw [Array.getD_eq_getD_getElem?,ihi e.on h3 (by omega)];rfl
          rw [hr] at this;cases this
   ·obtain ⟨h0,o,ho,hall⟩:=mem_ready.1 hi;have ho':l[i]?=some o:=by simpa using ho
    have hil:i<l.length:=(List.getElem?_eq_some_iff.1 ho').1;have hli:listed[i]?=some false:=by
     cases hli:listed[i]? with
     | none=>rw [Array.getElem?_eq_none_iff] at hli;omega
     | some b=>rw [Array.getD_eq_getD_getElem?,hli] at h0;rw [show b=false from h0]
    have hst:=hsteps.get i o ho' (fun i=>listed.getD i false) y w hb (by rw [Nat.zero_add];show listed.getD i false=false;rw [Array.getD_eq_getD_getElem?,hli];rfl) hy (fun j hj=>by
     unfold cG at hj;obtain ⟨e,he,rfl⟩:=List.mem_map.1 hj;obtain ⟨he1,he2⟩:=List.mem_filter.1 he;have hl:=hall e (by simpa using he1) he2;refine ⟨hl,hF e.on ?_⟩;cases hle:listed[e.on]? with
     | none=>rw [Array.getD_eq_getD_getElem?,hle] at hl;cases hl
     | some b=>rw [Array.getD_eq_getD_getElem?,hle] at hl;rw [show b=true from hl]) hcl hun
    rw [Nat.zero_add] at hst;obtain ⟨t,ht⟩:∃t,dsts[i]?=some t:=⟨dsts[i]'(by omega),gZg oZm⟩
    have htd:dsts.getD i 0=t:=by rw [gZe,ht];rfl
    have hfi:=hfm i hil;rw [ho',ht] at hfi;simp only [Bool.and_eq_true,Bool.or_eq_true,decide_eq_true_eq] at hfi;obtain ⟨hgd,hfi⟩:=hfi;have after:∀u w',(R w w'∧(dsts.getD i 0<x.length→F i u w')∧J (upd (fun i=>listed.getD i false) i) w')→wpAny P .any l.toArray Q fuel (listed.setIfInBounds i true) (Act.put ⟨af x.length y,d⟩ o.dst u) w':=by
     rintro u w' ⟨hR,hu,hJw⟩;rw [htd] at hu;have ea:(Act.put ⟨af x.length y,d⟩ o.dst u)=⟨af x.length (fun s=>if s=t then u else y s),d⟩:=by
      rcases hfi with ⟨h1,h2⟩ | ⟨h1,h2⟩
      ·rw [h1];simp only [Act.put,eD]
      ·have:o.dst=none:=by simpa using h1
       rw [this];simp only [Act.put]
       congr 1
       apply Array.ext_getElem?
       intro s;by_cases hs:s<x.length
       ·rw [aS _ _ _ hs,aS _ _ _ hs,if_neg (by omega)]
       ·rw [Array.getElem?_eq_none (by rw [aQ];omega),Array.getElem?_eq_none (by rw [aQ];omega)]
     rw [ea];have hlf:=fW listed.toList i (by simpa using hli);have hup:∀j,(listed.setIfInBounds i true).getD j false=if j=i then true else listed.getD j false:=by
      intro j;by_cases hji:j=i
      ·subst hji;rw [if_pos rfl,Array.getD_eq_getD_getElem?,Array.getElem?_setIfInBounds_self_of_lt (by omega)];rfl
      ·rw [if_neg hji,Array.getD_eq_getD_getElem?,Array.getD_eq_getD_getElem?,Array.getElem?_setIfInBounds_ne (Ne.symm hji)]
     refine ih _ _ _ ?_ (by rw [Array.size_setIfInBounds,hsz]) ?_ ?_ (hJ _ _ _ ?_ hJw) ?_ ?_
     ·unfold left at hf⊢;rw [Array.toList_setIfInBounds];omega
     ·intro s hs;have hst:s≠t:=fun e=>hs (e▸List.mem_of_getElem? ht);simp only [hst,if_false];exact hy s hs
     ·intro j hj hjt;by_cases hji:j=i
      ·subst hji;rw [htd] at hjt⊢;simpa using hu hjt
      ·rw [Array.getElem?_setIfInBounds_ne (Ne.symm hji)] at hj;have hjl:j<dsts.length:=by
        have:=(Array.getElem?_eq_some_iff.1 hj).1;omega
       have hne:dsts.getD j 0≠t:=by
        rw [gZe,gZg hjl];intro e;have hit:dsts[i]'(by omega)=t:=(List.getElem?_eq_some_iff.1 ht).2;have:=dK hnd j i hjl oZm (show dsts[j]=dsts[i]'(by omega) from by rw [hit];simpa using e);exact hji this
       simp only [hne,if_false];exact hmono _ _ _ _ (hF j hj hjt) hR
     ·intro j hj;by_cases hji:j=i
      ·subst hji;rw [cZ,Array.getD_eq_getD_getElem?,Array.getElem?_setIfInBounds_self_of_lt (by omega)];rfl
      ·rw [aE _ hji,Array.getD_eq_getD_getElem?,Array.getD_eq_getD_getElem?,Array.getElem?_setIfInBounds_ne (Ne.symm hji)]
     ·intro k q hk hLk j hj;rw [hup] at hLk⊢;by_cases hji:j=i
      ·rw [if_pos hji]
      ·rw [if_neg hji];by_cases hki:k=i
       ·subst hki;rw [ho'] at hk;injection hk with hk;subst hk;unfold cG at hj;obtain ⟨e,he,rfl⟩:=List.mem_map.1 hj;obtain ⟨he1,he2⟩:=List.mem_filter.1 he;have hl:=hall e (by simpa using he1) he2;cases hle:listed[e.on]? with
        | none=>rw [Array.getD_eq_getD_getElem?,hle] at hl;cases hl
        | some b=>rw [Array.getD_eq_getD_getElem?,hle] at hl⊢;exact hl
       ·rw [if_neg hki] at hLk;exact hcl k q hk hLk j hj
     ·intro k hk hLk hkn;rw [hup] at hLk;by_cases hki:k=i
      ·rw [if_pos hki] at hLk;cases hLk
      ·rw [if_neg hki] at hLk;have hne:dsts.getD k 0≠t:=by
        rw [gZe,gZg (by omega)];intro e;have hit:dsts[i]'(by omega)=t:=(List.getElem?_eq_some_iff.1 ht).2;have:=dK hnd k i oZm oZm (show dsts[k]'(by omega)=dsts[i]'(by omega) from by rw [hit];simpa using e);exact hki this
       simp only [hne,if_false];exact hun k hk hLk hkn
    unfold wpOp;rw [ho];simp only
    have hw:Region.wanted o (yielded l.toArray (af x.length y))=true:=by
     have:o.guard=none:=by simpa using hgd
     unfold Region.wanted;rw [this]
    rw [if_pos hw];exact .inl (hst _ _ after)
theorem aL {id:Nat} {l:List Oper} {x:List Value} {d:List Deferred} {w:World} (hm:P.follows .mixedOrders=true) (n:Nat) (hn:x.length=n) (dsts:List Nat) (R:World→World→Prop) (F:Nat→Value→World→Prop) (J:(Nat→Bool)→World→Prop)
 (hmono:∀i u w w',F i u w→R w w'→F i u w') (hJ:∀L L' w,(∀i,i<l.length→L i=L' i)→J L w→J L' w)
 (hok:fV l dsts n=true) (hst:J (fun _=>false) w.drew) (hsteps:fX P l J n x d dsts R F 0 l)
 (hend:∀(v:Nat→Value) (L:Nat→Bool) (w':World),J L w'→(∀i,i<l.length→L i=true)→(∀i,i<l.length→dsts.getD i 0<n→F i (v i) w')→Q .normal ⟨(aO v 0 dsts x).toArray,d⟩ w') :
 (Code.region id l.toArray true).wp P Q ⟨x.toArray,d⟩ w:=by
 subst hn;refine wp_region_any hm ?_;change wpAny P .any l.toArray Q _ _ _ w.drew;rw [ap x];have hl:∀n,((List.replicate n false).filter (!·)).length=n:=fun n=>by induction n with
  | zero=>rfl
  | succ n ih=>rw [List.replicate_succ];simp
 refine oL dsts R F J hmono hJ hok hsteps hend _ _ _ _ ?_ (by simp) (fun t ht=>rfl) ?_ (hJ _ _ _ ?_ hst) (fun k q hk hLk=>?_) (fun k hk _ _=>rfl)
 ·unfold left;rw [Array.toList_replicate,hl];exact lZr _
 ·intro i hi;rw [Array.getElem?_replicate] at hi;split at hi<;>cases hi
 ·intro i hi;rw [Array.getD_eq_getD_getElem?,Array.getElem?_replicate];split<;>rfl
 ·rw [Array.getD_eq_getD_getElem?,Array.getElem?_replicate] at hLk;split at hLk<;>cases hLk
end
structure Jw (i j:Nat) (P0 P1 P2:World→Prop) (L:Nat→Bool) (w:World):Prop where
 p0:L i=false→L j=false→P0 w
 p1:L i=true→L j=false→P1 w
 p2:L j=true→P2 w
theorem Jw.congr {i j m:Nat} {P0 P1 P2:World→Prop} (hi:i<m) (hj:j<m):∀L L' w,(∀k,k<m→L k=L' k)→Jw i j P0 P1 P2 L w→Jw i j P0 P1 P2 L' w:=
 fun L L' w h hJ=>⟨by rw [←h i hi,←h j hj];exact hJ.p0,by rw [←h i hi,←h j hj];exact hJ.p1,by rw [←h j hj];exact hJ.p2⟩
theorem Jw.pure {i j k:Nat} {P0 P1 P2:World→Prop} {w:World} {L:Nat→Bool} (h:Jw i j P0 P1 P2 L w) (hi:i≠k) (hj:j≠k):Jw i j P0 P1 P2 (upd L k) w:=
 ⟨by rw [aE _ hi,aE _ hj];exact h.p0,by rw [aE _ hi,aE _ hj];exact h.p1,by rw [aE _ hj];exact h.p2⟩
theorem Jw.first {i j:Nat} {P0 P1 P2:World→Prop} {w':World} {L:Nat→Bool} (hij:j≠i) (hLj:L j=false) (hw:P1 w'):Jw i j P0 P1 P2 (upd L i) w':=
 ⟨by rw [cZ];intro h;(cases h),fun _ _=>hw,by rw [aE _ hij,hLj];intro h;cases h⟩
theorem Jw.second {i j:Nat} {P0 P1 P2:World→Prop} {w':World} {L:Nat→Bool} (hw:P2 w'):Jw i j P0 P1 P2 (upd L j) w':=
 ⟨by rw [cZ];intro _ h;(cases h),by rw [cZ];intro _ h;(cases h),fun _=>hw⟩
structure Jo (j:Nat) (P0 P1:World→Prop) (L:Nat→Bool) (w:World):Prop where
 p0:L j=false→P0 w
 p1:L j=true→P1 w
theorem Jo.congr {j m:Nat} {P0 P1:World→Prop} (hj:j<m):∀L L' w,(∀k,k<m→L k=L' k)→Jo j P0 P1 L w→Jo j P0 P1 L' w:=
 fun L L' w h hJ=>⟨by rw [←h j hj];exact hJ.p0,by rw [←h j hj];exact hJ.p1⟩
theorem Jo.pure {j k:Nat} {P0 P1:World→Prop} {w:World} {L:Nat→Bool} (h:Jo j P0 P1 L w) (hj:j≠k):Jo j P0 P1 (upd L k) w:=
 ⟨by rw [aE _ hj];exact h.p0,by rw [aE _ hj];exact h.p1⟩
theorem Jo.second {j:Nat} {P0 P1:World→Prop} {w':World} {L:Nat→Bool} (hw:P1 w'):Jo j P0 P1 (upd L j) w':=
 ⟨by rw [cZ];intro h;(cases h),fun _=>hw⟩
end Go.Proofs.YtclgbdfkdbbinaaGreat
