/-
  What is proved here: words and contracts, a part of those that the statement rests on (B3).
  Conditions: none but that the arguments are values of their types.
-/
import Derived.Test.YtclgbdfkdbbinaaGreatB0
import Derived.Test.YtclgbdfkdbbinaaGreatB2
import Derived.Test.YtclgbdfkdbbinaaGreatB1
import Derived.Test.YtclgbdfkdbbinaaGreatRows
set_option linter.unusedVariables false
set_option linter.unusedSimpArgs false
set_option maxRecDepth 100000
set_option maxHeartbeats 12800000
namespace Go.Proofs.YtclgbdfkdbbinaaGreat
open Go.RowKit
theorem gy {p:Sg→Bool}:∀{L:List Sg} {k:Nat},(∀j,j<k→p (L.getD j sg0)=false)→k<L.length→p (L.getD k sg0)=true→L.find? p=some (L.getD k sg0)
 | [],k,_,h,_=>by simp at h
 | s :: L,0,_,_,h=>by
   have h':p s=true:=h;rw [List.find?_cons_of_pos h'];rfl
 | s :: L,k+1,h0,h1,h2=>by
   have h':p s=false:=h0 0 oZm;rw [List.find?_cons_of_neg (by rw [h'];decide)];exact gy (L:=L) (k:=k) (fun j hj=>h0 (j+1) oZm) (by simpa using h1) h2
theorem mN {p:Sg→Bool} {L:List Sg} (h:∀j,j<L.length→p (L.getD j sg0)=false):L.find? p=none:=by
 rw [List.find?_eq_none];intro s hs;obtain ⟨i,hi,rfl⟩:=List.getElem_of_mem hs;have:=h i hi;rw [gZe,gZg hi] at this;simpa using this
theorem ou (p:Sg→Bool) (L:List Sg):L.any p=(L.find? p).isSome:=by
 rw [Bool.eq_iff_iff,List.any_eq_true,List.find?_isSome]
def dE:Option Sg→Value
 | none=>sg0.val
 | some s=>s.val
def gU (addr size:Int) (s:Sg):Bool:=(s.ty==1) && jN s.va s.fi addr size
theorem ph (s:Sg) (b1 b2:Nat) (addr size:Int) (w:World) (h:s.Ok) (a0:0≤addr) (a1:addr≤18446744073709551615) (z0:0≤size) (z1:size≤18446744073709551615)
 (h1:w.cell? ⟨b1,0,none⟩=some (.int .u64 addr)) (h2:w.cell? ⟨b2,0,none⟩=some (.int .u64 size)) :
 Calls Tryz.prog 158 #[s.val,.pointer (some ⟨b1,0,none⟩),.pointer (some ⟨b2,0,none⟩)] w fun e w'=>e=.returned (.bool (gU addr size s))∧Below w.heap.size w w':=by
 obtain ⟨-,-,-,⟨d0,d1⟩,⟨e0,e1⟩,-,-⟩:=h;obtain ⟨ty,fl,ot,va,fi,me,al⟩:=s;simp only at d0 d1 e0 e1;have hbl:∀o,Below w.heap.size w (w.alloc o):=fun o=>(Below.refl _ _).alloc (lZr _) o;have hb1:=eJ h1;have hb2:=eJ h2;simp only at hb1 hb2;have H1:∀o,(w.alloc o).cell? ⟨b1,0,none⟩=some (.int .u64 addr):=fun o=>by rw [World.cell?_alloc_past _ _ _ hb1];exact h1
 have H2:∀o,(w.alloc o).cell? ⟨b2,0,none⟩=some (.int .u64 size):=fun o=>by rw [World.cell?_alloc_past _ _ _ hb2];exact h2
 have K:=hZz (fun w1=>io va fi addr size w1 d0 d1 e0 e1 a0 a1 z0 z1);unfold gU Sg.val;simp only
 by_cases ht:ty=1
 ·subst ht;go_enter Tryz.func158,Tryz.ntmps158
  go_wp2_with (go_at_call 139;refine (K.out _).mono ?_;rintro e w' ⟨rfl,rfl⟩);go_ret;exact ⟨by simp,hbl _⟩
 ·have ht':(ty==1)=false:=by simpa using ht
  go_enter Tryz.func158,Tryz.ntmps158
  go_wp2_with (go_at_call 139;refine (K.out _).mono ?_;rintro e w' ⟨rfl,rfl⟩);go_ret;exact ⟨by simp [ht'],hbl _⟩
theorem qW (s:Sg) (b1:Nat) (kind:Int) (w:World) (h1:w.cell? ⟨b1,0,none⟩=some (.int .u32 kind)) :
 Calls Tryz.prog 94 #[s.val,.pointer (some ⟨b1,0,none⟩)] w fun e w'=>e=.returned (.bool (s.ty==kind))∧Below w.heap.size w w':=by
 obtain ⟨ty,fl,ot,va,fi,me,al⟩:=s;have hbl:∀o,Below w.heap.size w (w.alloc o):=fun o=>(Below.refl _ _).alloc (lZr _) o;have hb1:=eJ h1;simp only at hb1;have H1:∀o,(w.alloc o).cell? ⟨b1,0,none⟩=some (.int .u32 kind):=fun o=>by rw [World.cell?_alloc_past _ _ _ hb1];exact h1
 unfold Sg.val;go_enter Tryz.func94,Tryz.ntmps94
 go_wp2;go_ret;exact ⟨by simp,hbl _⟩
theorem nM (s k:Sg) (b1:Nat) (w:World) (h:s.Ok) (hk:k.Ok) (h1:Sev w b1 0 s) :
 Calls Tryz.prog 138 #[k.val,.pointer (some ⟨b1,0,none⟩)] w fun e w'=>e=.returned (.bool (inB s k))∧Below w.heap.size w w':=by
 obtain ⟨-,-,⟨c0,c1⟩,⟨d0,d1⟩,⟨e0,e1⟩,-,-⟩:=h;obtain ⟨-,-,⟨i0,i1⟩,⟨j0,j1⟩,⟨k0,k1⟩,-,-⟩:=hk;have hbl:∀o,Below w.heap.size w (w.alloc o):=fun o=>(Below.refl _ _).alloc (lZr _) o;have hb1:=eJ h1.c0;simp only at hb1;have HS:∀o,Sev (w.alloc o) b1 0 s:=fun o=>h1.below (hbl o) hb1;have H2:=fun o=>(HS o).c2;have H3:=fun o=>(HS o).c3;have H4:=fun o=>(HS o).c4;obtain ⟨ty,fl,ot,va,fi,me,al⟩:=s;obtain ⟨kty,kfl,kot,kva,kfi,kme,kal⟩:=k;simp only [Nat.zero_add] at c0 c1 d0 d1 e0 e1 i0 i1 j0 j1 k0 k1 H2 H3 H4;have K:=hZz (fun w1=>io kot kfi ot fi w1 i0 i1 k0 k1 c0 c1 e0 e1);obtain ⟨c,hc⟩:∃c,jN kot kfi ot fi=c:=⟨_,rfl⟩
 clear HS h1;unfold inB Sg.val;simp only
 rw [hc] at K⊢;clear hc;by_cases ht:kty=1
 ·subst ht;cases c with
  | true=>
    go_enter Tryz.func138,Tryz.ntmps138
    go_wp2_with (go_at_call 139;refine (K.out _).mono ?_;rintro e w' ⟨rfl,rfl⟩);go_ret;exact ⟨by simp,hbl _⟩
  | false=>
    go_enter Tryz.func138,Tryz.ntmps138
    go_wp2_with (go_at_call 139;refine (K.out _).mono ?_;rintro e w' ⟨rfl,rfl⟩);go_ret;exact ⟨by simp,hbl _⟩
 ·have ht':(kty==1)=false:=by simpa using ht
  go_enter Tryz.func138,Tryz.ntmps138
  go_wp2_with (go_at_call 139;refine (K.out _).mono ?_;rintro e w' ⟨rfl,rfl⟩);go_ret;exact ⟨by simp [ht'],hbl _⟩
theorem tX (B:Nat) (a:Option Addr) (len cap:Nat) (L:List Sg) (p:Sg→Bool) (b1 b2:Nat) (w:World) (hs:Sgs w B a len L) (hB:B≤w.heap.size) (hl:(len:Int)≤9223372036854775807)
 (hp:∀s w1,s.Ok→Below w.heap.size w w1→Calls Tryz.prog 158 #[s.val,.pointer (some ⟨b1,0,none⟩),.pointer (some ⟨b2,0,none⟩)] w1 fun e w'=>e=.returned (.bool (p s))∧Below w1.heap.size w1 w') :
 Calls Tryz.prog 93 #[.slice a len cap,.func (.func 158) #[] #[.pointer (some ⟨b1,0,none⟩),.pointer (some ⟨b2,0,none⟩)]] w fun e w'=>e=.returned (.tuple #[dE (L.find? p),.bool (L.find? p).isSome])∧Below w.heap.size w w':=by
 obtain ⟨r,hr⟩:∃r,L.find? p=r:=⟨_,rfl⟩
 rw [hr];have HR:=hZz hr;have HS:=hZz hs;have HP:=hZz hp;clear hr hs hp;go_enter Tryz.func93,Tryz.ntmps93
 go_wp2;go_loopw [7,10] (fun _ i wr=>∃k:Nat,k≤len∧i=.int .i64 k∧(∀j,j<k→p (L.getD j sg0)=false)∧Blk wr w.heap.size sg0.cells 65∧Below w.heap.size w wr) (fun _ i _=>len-(intOf i).toNat)
 case atStart=>exact ⟨0,Nat.zero_le _,rfl,fun j hj=>absurd hj oZm,Blk.new _ _ _,(Below.refl _ _).alloc (lZr _) _⟩
 case round=>
  obtain ⟨k,hk,rfl,hno,hblk,hbel⟩:=hrel;by_cases hlt:k<len
  ·obtain ⟨b,off,rfl,hbB,hcell⟩:=HS.out.hc oZm;have hsev:=(hcell k hlt).below (hbel.mono hB) hbB;have hok:=HS.out.okAt hlt;have hpk:=hZz (HP.out (L.getD k sg0));have HAT:=hZz (fun h=>gy (p:=p) (L:=L) hno (by have:=HS.out.hl;omega) h);have HNO:Hid (p (L.getD k sg0)=false→∀j,j<k+1→p (L.getD j sg0)=false):=hZz (fun h j hj=>by
    by_cases e:j=k
    ·subst e;exact h
    ·exact hno j oZm)
   obtain ⟨s,hsd⟩:∃s,L.getD k sg0=s:=⟨_,rfl⟩
   rw [hsd] at hsev hok hpk HAT HNO;obtain ⟨q,hq⟩:∃q,p s=q:=⟨_,rfl⟩
   rw [hq] at hpk HAT HNO;have HOK:=hZz hok;clear hcell hsd hno hok;obtain ⟨s0,s1,s2,s3,s4,s5,s6⟩:=hsev;obtain ⟨ty,fl,ot,va,fi,me,al⟩:=s;simp only at s0 s1 s2 s3 s4 s5 s6;have hbs:=hbel.size;have HB2:Hid (∀o,Below w.heap.size w (wr.alloc o)):=hZz (fun o=>hbel.alloc hbs o);have HK2:Hid (∀o,Blk (wr.alloc o) w.heap.size sg0.cells 65):=hZz (fun o=>hblk.alloc o);clear hbel hblk;cases q with
   | true=>
     have hr2:=HAT.out rfl;rw [HR.out] at hr2;subst hr2;go_wp2_with fail;refine (hpk.out _ HOK.out (HB2.out _)).mono ?_;rintro e w2 ⟨rfl,hb2⟩;obtain ⟨p0,p1,p2,p3,p4,p5,p6⟩:=((Blk.new wr _ _).later hb2).c7;obtain ⟨q0,q1,q2,q3,q4,q5,q6⟩:=((HK2.out _).later hb2).c7;obtain ⟨f0,f1,f2,f3,f4,f5,f6⟩:=((HK2.out _).later hb2).f7;have HB3:=hZz ((HB2.out _).trans (hb2.mono (HB2.out _).size));clear hb2;go_wp2;refine bodyPost_ret (v:=.tuple #[.agg #[.int .u32 ty,.int .u32 fl,.int .u64 ot,.int .u64 va,.int .u64 fi,.int .u64 me,.int .u64 al],.bool true]) (by simp [results,Tryz.results93,go_sem,q0,q1,q2,q3,q4,q5,q6]) rfl ⟨rfl,?_⟩;exact ((((((HB3.out.setCell (lZr _) _).setCell (lZr _) _).setCell (lZr _) _).setCell (lZr _) _).setCell (lZr _) _).setCell (lZr _) _).setCell (lZr _) _
   | false=>
     go_wp2_with fail;refine (hpk.out _ HOK.out (HB2.out _)).mono ?_;rintro e w2 ⟨rfl,hb2⟩;have hk2:=(HK2.out (.cells #[.int .u32 ty,.int .u32 fl,.int .u64 ot,.int .u64 va,.int .u64 fi,.int .u64 me,.int .u64 al] 65)).later hb2;have hbb:=(HB2.out _).trans (hb2.mono (HB2.out _).size);clear hb2;go_wp2;go_roundw
     case rel=>exact ⟨k+1,by omega,by go_num,HNO.out (by trivial),hk2,hbb⟩
     case measure=>simp [intOf];omega
  ·obtain rfl:k=len:=by omega
   have hr2:=mN (p:=p) (L:=L) (fun j hj=>hno j (by have:=HS.out.hl;omega));rw [HR.out] at hr2;subst hr2;obtain ⟨q0,q1,q2,q3,q4,q5,q6⟩:=hblk.c7;obtain ⟨f0,f1,f2,f3,f4,f5,f6⟩:=hblk.f7;go_wp2;refine bodyPost_ret (v:=.tuple #[.agg #[.int .u32 0,.int .u32 0,.int .u64 0,.int .u64 0,.int .u64 0,.int .u64 0,.int .u64 0],.bool false]) (by simp [results,Tryz.results93,go_sem,q0,q1,q2,q3,q4,q5,q6]) rfl ⟨rfl,?_⟩;exact ((((((hbel.setCell (lZr _) _).setCell (lZr _) _).setCell (lZr _) _).setCell (lZr _) _).setCell (lZr _) _).setCell (lZr _) _).setCell (lZr _) _
theorem tq (B:Nat) (a:Option Addr) (len cap:Nat) (L:List Sg) (p:Sg→Bool) (b1:Nat) (w:World) (hs:Sgs w B a len L) (hB:B≤w.heap.size) (hl:(len:Int)≤9223372036854775807)
 (hp:∀s w1,s.Ok→Below w.heap.size w w1→Calls Tryz.prog 94 #[s.val,.pointer (some ⟨b1,0,none⟩)] w1 fun e w'=>e=.returned (.bool (p s))∧Below w1.heap.size w1 w') :
 Calls Tryz.prog 93 #[.slice a len cap,.func (.func 94) #[] #[.pointer (some ⟨b1,0,none⟩)]] w fun e w'=>e=.returned (.tuple #[dE (L.find? p),.bool (L.find? p).isSome])∧Below w.heap.size w w':=by
 obtain ⟨r,hr⟩:∃r,L.find? p=r:=⟨_,rfl⟩
 rw [hr];have HR:=hZz hr;have HS:=hZz hs;have HP:=hZz hp;clear hr hs hp;go_enter Tryz.func93,Tryz.ntmps93
 go_wp2;go_loopw [7,10] (fun _ i wr=>∃k:Nat,k≤len∧i=.int .i64 k∧(∀j,j<k→p (L.getD j sg0)=false)∧Blk wr w.heap.size sg0.cells 65∧Below w.heap.size w wr) (fun _ i _=>len-(intOf i).toNat)
 case atStart=>exact ⟨0,Nat.zero_le _,rfl,fun j hj=>absurd hj oZm,Blk.new _ _ _,(Below.refl _ _).alloc (lZr _) _⟩
 case round=>
  obtain ⟨k,hk,rfl,hno,hblk,hbel⟩:=hrel;by_cases hlt:k<len
  ·obtain ⟨b,off,rfl,hbB,hcell⟩:=HS.out.hc oZm;have hsev:=(hcell k hlt).below (hbel.mono hB) hbB;have hok:=HS.out.okAt hlt;have hpk:=hZz (HP.out (L.getD k sg0));have HAT:=hZz (fun h=>gy (p:=p) (L:=L) hno (by have:=HS.out.hl;omega) h);have HNO:Hid (p (L.getD k sg0)=false→∀j,j<k+1→p (L.getD j sg0)=false):=hZz (fun h j hj=>by
    by_cases e:j=k
    ·subst e;exact h
    ·exact hno j oZm)
   obtain ⟨s,hsd⟩:∃s,L.getD k sg0=s:=⟨_,rfl⟩
   rw [hsd] at hsev hok hpk HAT HNO;obtain ⟨q,hq⟩:∃q,p s=q:=⟨_,rfl⟩
   rw [hq] at hpk HAT HNO;have HOK:=hZz hok;clear hcell hsd hno hok;obtain ⟨s0,s1,s2,s3,s4,s5,s6⟩:=hsev;obtain ⟨ty,fl,ot,va,fi,me,al⟩:=s;simp only at s0 s1 s2 s3 s4 s5 s6;have hbs:=hbel.size;have HB2:Hid (∀o,Below w.heap.size w (wr.alloc o)):=hZz (fun o=>hbel.alloc hbs o);have HK2:Hid (∀o,Blk (wr.alloc o) w.heap.size sg0.cells 65):=hZz (fun o=>hblk.alloc o);clear hbel hblk;cases q with
   | true=>
     have hr2:=HAT.out rfl;rw [HR.out] at hr2;subst hr2;go_wp2_with fail;refine (hpk.out _ HOK.out (HB2.out _)).mono ?_;rintro e w2 ⟨rfl,hb2⟩;obtain ⟨p0,p1,p2,p3,p4,p5,p6⟩:=((Blk.new wr _ _).later hb2).c7;obtain ⟨q0,q1,q2,q3,q4,q5,q6⟩:=((HK2.out _).later hb2).c7;obtain ⟨f0,f1,f2,f3,f4,f5,f6⟩:=((HK2.out _).later hb2).f7;have HB3:=hZz ((HB2.out _).trans (hb2.mono (HB2.out _).size));clear hb2;go_wp2;refine bodyPost_ret (v:=.tuple #[.agg #[.int .u32 ty,.int .u32 fl,.int .u64 ot,.int .u64 va,.int .u64 fi,.int .u64 me,.int .u64 al],.bool true]) (by simp [results,Tryz.results93,go_sem,q0,q1,q2,q3,q4,q5,q6]) rfl ⟨rfl,?_⟩;exact ((((((HB3.out.setCell (lZr _) _).setCell (lZr _) _).setCell (lZr _) _).setCell (lZr _) _).setCell (lZr _) _).setCell (lZr _) _).setCell (lZr _) _
   | false=>
     go_wp2_with fail;refine (hpk.out _ HOK.out (HB2.out _)).mono ?_;rintro e w2 ⟨rfl,hb2⟩;have hk2:=(HK2.out (.cells #[.int .u32 ty,.int .u32 fl,.int .u64 ot,.int .u64 va,.int .u64 fi,.int .u64 me,.int .u64 al] 65)).later hb2;have hbb:=(HB2.out _).trans (hb2.mono (HB2.out _).size);clear hb2;go_wp2;go_roundw
     case rel=>exact ⟨k+1,by omega,by go_num,HNO.out (by trivial),hk2,hbb⟩
     case measure=>simp [intOf];omega
  ·obtain rfl:k=len:=by omega
   have hr2:=mN (p:=p) (L:=L) (fun j hj=>hno j (by have:=HS.out.hl;omega));rw [HR.out] at hr2;subst hr2;obtain ⟨q0,q1,q2,q3,q4,q5,q6⟩:=hblk.c7;obtain ⟨f0,f1,f2,f3,f4,f5,f6⟩:=hblk.f7;go_wp2;refine bodyPost_ret (v:=.tuple #[.agg #[.int .u32 0,.int .u32 0,.int .u64 0,.int .u64 0,.int .u64 0,.int .u64 0,.int .u64 0],.bool false]) (by simp [results,Tryz.results93,go_sem,q0,q1,q2,q3,q4,q5,q6]) rfl ⟨rfl,?_⟩;exact ((((((hbel.setCell (lZr _) _).setCell (lZr _) _).setCell (lZr _) _).setCell (lZr _) _).setCell (lZr _) _).setCell (lZr _) _).setCell (lZr _) _
theorem tA (B:Nat) (a:Option Addr) (len cap:Nat) (L:List Sg) (p:Sg→Bool) (b1:Nat) (w:World) (hs:Sgs w B a len L) (hB:B≤w.heap.size) (hl:(len:Int)≤9223372036854775807)
 (hp:∀s w1,s.Ok→Below w.heap.size w w1→Calls Tryz.prog 138 #[s.val,.pointer (some ⟨b1,0,none⟩)] w1 fun e w'=>e=.returned (.bool (p s))∧Below w1.heap.size w1 w') :
 Calls Tryz.prog 93 #[.slice a len cap,.func (.func 138) #[] #[.pointer (some ⟨b1,0,none⟩)]] w fun e w'=>e=.returned (.tuple #[dE (L.find? p),.bool (L.find? p).isSome])∧Below w.heap.size w w':=by
 obtain ⟨r,hr⟩:∃r,L.find? p=r:=⟨_,rfl⟩
 rw [hr];have HR:=hZz hr;have HS:=hZz hs;have HP:=hZz hp;clear hr hs hp;go_enter Tryz.func93,Tryz.ntmps93
 go_wp2;go_loopw [7,10] (fun _ i wr=>∃k:Nat,k≤len∧i=.int .i64 k∧(∀j,j<k→p (L.getD j sg0)=false)∧Blk wr w.heap.size sg0.cells 65∧Below w.heap.size w wr) (fun _ i _=>len-(intOf i).toNat)
 case atStart=>exact ⟨0,Nat.zero_le _,rfl,fun j hj=>absurd hj oZm,Blk.new _ _ _,(Below.refl _ _).alloc (lZr _) _⟩
 case round=>
  obtain ⟨k,hk,rfl,hno,hblk,hbel⟩:=hrel;by_cases hlt:k<len
  ·obtain ⟨b,off,rfl,hbB,hcell⟩:=HS.out.hc oZm;have hsev:=(hcell k hlt).below (hbel.mono hB) hbB;have hok:=HS.out.okAt hlt;have hpk:=hZz (HP.out (L.getD k sg0));have HAT:=hZz (fun h=>gy (p:=p) (L:=L) hno (by have:=HS.out.hl;omega) h);have HNO:Hid (p (L.getD k sg0)=false→∀j,j<k+1→p (L.getD j sg0)=false):=hZz (fun h j hj=>by
    by_cases e:j=k
    ·subst e;exact h
    ·exact hno j oZm)
   obtain ⟨s,hsd⟩:∃s,L.getD k sg0=s:=⟨_,rfl⟩
   rw [hsd] at hsev hok hpk HAT HNO;obtain ⟨q,hq⟩:∃q,p s=q:=⟨_,rfl⟩
   rw [hq] at hpk HAT HNO;have HOK:=hZz hok;clear hcell hsd hno hok;obtain ⟨s0,s1,s2,s3,s4,s5,s6⟩:=hsev;obtain ⟨ty,fl,ot,va,fi,me,al⟩:=s;simp only at s0 s1 s2 s3 s4 s5 s6;have hbs:=hbel.size;have HB2:Hid (∀o,Below w.heap.size w (wr.alloc o)):=hZz (fun o=>hbel.alloc hbs o);have HK2:Hid (∀o,Blk (wr.alloc o) w.heap.size sg0.cells 65):=hZz (fun o=>hblk.alloc o);clear hbel hblk;cases q with
   | true=>
     have hr2:=HAT.out rfl;rw [HR.out] at hr2;subst hr2;go_wp2_with fail;refine (hpk.out _ HOK.out (HB2.out _)).mono ?_;rintro e w2 ⟨rfl,hb2⟩;obtain ⟨p0,p1,p2,p3,p4,p5,p6⟩:=((Blk.new wr _ _).later hb2).c7;obtain ⟨q0,q1,q2,q3,q4,q5,q6⟩:=((HK2.out _).later hb2).c7;obtain ⟨f0,f1,f2,f3,f4,f5,f6⟩:=((HK2.out _).later hb2).f7;have HB3:=hZz ((HB2.out _).trans (hb2.mono (HB2.out _).size));clear hb2;go_wp2;refine bodyPost_ret (v:=.tuple #[.agg #[.int .u32 ty,.int .u32 fl,.int .u64 ot,.int .u64 va,.int .u64 fi,.int .u64 me,.int .u64 al],.bool true]) (by simp [results,Tryz.results93,go_sem,q0,q1,q2,q3,q4,q5,q6]) rfl ⟨rfl,?_⟩;exact ((((((HB3.out.setCell (lZr _) _).setCell (lZr _) _).setCell (lZr _) _).setCell (lZr _) _).setCell (lZr _) _).setCell (lZr _) _).setCell (lZr _) _
   | false=>
     go_wp2_with fail;refine (hpk.out _ HOK.out (HB2.out _)).mono ?_;rintro e w2 ⟨rfl,hb2⟩;have hk2:=(HK2.out (.cells #[.int .u32 ty,.int .u32 fl,.int .u64 ot,.int .u64 va,.int .u64 fi,.int .u64 me,.int .u64 al] 65)).later hb2;have hbb:=(HB2.out _).trans (hb2.mono (HB2.out _).size);clear hb2;go_wp2;go_roundw
     case rel=>exact ⟨k+1,by omega,by go_num,HNO.out (by trivial),hk2,hbb⟩
     case measure=>simp [intOf];omega
  ·obtain rfl:k=len:=by omega
   have hr2:=mN (p:=p) (L:=L) (fun j hj=>hno j (by have:=HS.out.hl;omega));rw [HR.out] at hr2;subst hr2;obtain ⟨q0,q1,q2,q3,q4,q5,q6⟩:=hblk.c7;obtain ⟨f0,f1,f2,f3,f4,f5,f6⟩:=hblk.f7;go_wp2;refine bodyPost_ret (v:=.tuple #[.agg #[.int .u32 0,.int .u32 0,.int .u64 0,.int .u64 0,.int .u64 0,.int .u64 0,.int .u64 0],.bool false]) (by simp [results,Tryz.results93,go_sem,q0,q1,q2,q3,q4,q5,q6]) rfl ⟨rfl,?_⟩;exact ((((((hbel.setCell (lZr _) _).setCell (lZr _) _).setCell (lZr _) _).setCell (lZr _) _).setCell (lZr _) _).setCell (lZr _) _).setCell (lZr _) _
theorem jv (r:Option Sg):dE r=(r.getD sg0).val:=by cases r<;>rfl
def bC (kind:Int) (s:Sg):Bool:=s.ty==kind
def fH (s:Sg) (addr:Int):Int:=IntKind.u64.wrap (s.ot+(addr-s.va))
def mx (L:List Sg) (addr size:Int):Value:=
 if size=0 then .tuple #[.int .u64 0,.int .i64 40]
 else match L.find? (gU addr size) with
  | none=>.tuple #[.int .u64 0,.int .i64 40]
  | some s=>.tuple #[.int .u64 (fH s addr),.int .i64 0]
theorem ie (B:Nat) (a:Option Addr) (len cap:Nat) (L:List Sg) (kind:Int) (w:World) (hs:Sgs w B a len L) (hB:B≤w.heap.size) (hl:(len:Int)≤9223372036854775807) :
 Calls Tryz.prog 48 #[.slice a len cap,.int .u32 kind] w fun e w'=>e=.returned (.tuple #[dE (L.find? (bC kind)),.bool (L.find? (bC kind)).isSome])∧Below w.heap.size w w':=by
 have hmf:∀(fn:Fn) (first cap:Array Value) (w:World),(Instr.makeFunc fn first cap).run Tryz.prog w=.ok (.func fn first cap) w:=fun _ _ _ _=>rfl;have hb0:Below w.heap.size w ((w.alloc (.cells #[.int .u32 kind] 63)).alloc (.cells sg0.cells 65)):=((Below.refl _ _).alloc (lZr _) _).alloc (by simp) _;have hk:=tq B a len cap L (bC kind) w.heap.size ((w.alloc (.cells #[.int .u32 kind] 63)).alloc (.cells sg0.cells 65)) (hs.below (hb0.mono hB)) (by simp;omega) hl (fun s w1 _ h1=>
  qW s w.heap.size kind w1 ((((Blk.new w _ _).alloc _).later h1).cell 0))
 rw [jv] at hk⊢;obtain ⟨s,hs'⟩:∃s,(L.find? (bC kind)).getD sg0=s:=⟨_,rfl⟩
 obtain ⟨q,hq⟩:∃q,(L.find? (bC kind)).isSome=q:=⟨_,rfl⟩
 rw [hs',hq] at hk⊢;have K:=hZz hk;have HB0:=hZz hb0;clear hk hs hs' hq hb0;obtain ⟨ty,fl,ot,va,fi,me,al⟩:=s;unfold Sg.val Sg.cells sg0 at *;go_enter Tryz.func48,Tryz.ntmps48
 go_wp2_with fail;refine K.out.mono ?_;rintro e w2 ⟨rfl,hb2⟩;obtain ⟨q0,q1,q2,q3,q4,q5,q6⟩:=((Blk.new (w.alloc (.cells #[.int .u32 kind] 63)) _ _).later hb2).c7;obtain ⟨f0,f1,f2,f3,f4,f5,f6⟩:=((Blk.new (w.alloc (.cells #[.int .u32 kind] 63)) _ _).later hb2).f7;simp only [World.size_alloc] at q0 q1 q2 q3 q4 q5 q6 f0 f1 f2 f3 f4 f5 f6;have HB3:=hZz (HB0.out.trans (hb2.mono HB0.out.size));clear hb2;go_wp2;refine bodyPost_ret (v:=.tuple #[.agg #[.int .u32 ty,.int .u32 fl,.int .u64 ot,.int .u64 va,.int .u64 fi,.int .u64 me,.int .u64 al],.bool q]) (by simp [results,Tryz.results48,go_sem,q0,q1,q2,q3,q4,q5,q6]) rfl ⟨rfl,?_⟩;exact ((((((HB3.out.setCell (Nat.le_succ _) _).setCell (Nat.le_succ _) _).setCell (Nat.le_succ _) _).setCell (Nat.le_succ _) _).setCell (Nat.le_succ _) _).setCell (Nat.le_succ _) _).setCell (Nat.le_succ _) _
theorem oN (B:Nat) (a:Option Addr) (len cap:Nat) (L:List Sg) (addr size:Int) (w:World) (hs:Sgs w B a len L) (hB:B≤w.heap.size) (hl:(len:Int)≤9223372036854775807) (a0:0≤addr) (a1:addr≤18446744073709551615) (z0:0≤size) (z1:size≤18446744073709551615) :
 Calls Tryz.prog 141 #[.slice a len cap,.int .u64 addr,.int .u64 size] w fun e w'=>e=.returned (mx L addr size)∧Below w.heap.size w w':=by
 have hmf:∀(fn:Fn) (first cap:Array Value) (w:World),(Instr.makeFunc fn first cap).run Tryz.prog w=.ok (.func fn first cap) w:=fun _ _ _ _=>rfl;have hb0:Below w.heap.size w ((w.alloc (.cells #[.int .u64 addr] 24)).alloc (.cells #[.int .u64 size] 24)):=((Below.refl _ _).alloc (lZr _) _).alloc (by simp) _;unfold mx;by_cases h0:size=0
 ·subst h0;have HB0:=hZz hb0;clear hb0 hs;go_enter Tryz.func141,Tryz.ntmps141
  go_wp2;go_ret2;exact ⟨rfl,HB0.out⟩
 ·rw [if_neg h0];have hk:=tX B a len cap L (gU addr size) w.heap.size (w.heap.size+1) ((w.alloc (.cells #[.int .u64 addr] 24)).alloc (.cells #[.int .u64 size] 24)) (hs.below (hb0.mono hB)) (by simp;omega) hl (fun s w1 hok h1=>
   ph s w.heap.size (w.heap.size+1) addr size w1 hok a0 a1 z0 z1 ((((Blk.new w _ _).alloc _).later h1).cell 0) (by
    have:=((Blk.new (w.alloc (.cells #[.int .u64 addr] 24)) #[.int .u64 size] 24).later h1).cell 0;simpa using this))
  have HA:Hid (∀w2,Below ((w.alloc (.cells #[.int .u64 addr] 24)).alloc (.cells #[.int .u64 size] 24)).heap.size ((w.alloc (.cells #[.int .u64 addr] 24)).alloc (.cells #[.int .u64 size] 24)) w2→w2.cell? ⟨w.heap.size,0,none⟩=some (.int .u64 addr)∧w.heap.size<w2.heap.size):=hZz (fun w2 h2=>⟨(((Blk.new w _ _).alloc _).later h2).cell 0,by have:=h2.size;simp at this;omega⟩);have HB0:=hZz hb0;have h0':(size==0)=false:=by simpa using h0
  clear hb0 hs;cases hf:L.find? (gU addr size) with
  | none=>
    rw [hf] at hk;have K:=hZz hk;clear hk hf;unfold dE Sg.val sg0 at *;simp only [Option.isSome] at K;go_enter Tryz.func141,Tryz.ntmps141
    go_wp2_with fail;refine K.out.mono ?_;rintro e w2 ⟨rfl,hb2⟩;have HB3:=hZz (HB0.out.trans (hb2.mono HB0.out.size));clear hb2;go_wp2;go_ret2;exact ⟨rfl,HB3.out.alloc HB3.out.size _⟩
  | some s=>
    rw [hf] at hk;have K:=hZz hk;clear hk hf;have HP:Hid (IntKind.u64.wrap (IntKind.u64.wrap (s.ot+addr)-s.va)=fH s addr):=hZz (by
     unfold fH;simp only [IntKind.wrap_u64];omega)
    obtain ⟨ty,fl,ot,va,fi,me,al⟩:=s;obtain ⟨r,hr⟩:∃r,fH ⟨ty,fl,ot,va,fi,me,al⟩ addr=r:=⟨_,rfl⟩
    simp only [hr] at HP⊢;clear hr;unfold dE Sg.val at *;simp only [Option.isSome] at K HP;go_enter Tryz.func141,Tryz.ntmps141
    go_wp2_with fail;refine K.out.mono ?_;rintro e w2 ⟨rfl,hb2⟩;obtain ⟨hca,hlt⟩:=HA.out w2 hb2;have hcb:∀o,(w2.alloc o).cell? ⟨w.heap.size,0,none⟩=some (.int .u64 addr):=fun o=>by rw [World.cell?_alloc_past _ _ _ hlt];exact hca
    have HB3:=hZz (HB0.out.trans (hb2.mono HB0.out.size));have hpo:=HP.out;clear hb2;go_wp2;go_ret2;exact ⟨rfl,HB3.out.alloc HB3.out.size _⟩
def eq (zs:List Int):Prop:=∀i,i<zs.length→zs.getD i 0≠0
def cV (zs:List Int) (k:Nat):Prop:=k<zs.length∧zs.getD k 0=0∧∀i,i<k→zs.getD i 0≠0
theorem ji:∀zs:List Int,eq zs∨∃k,cV zs k
 | []=>.inl (fun i h=>absurd h (Nat.not_lt_zero _))
 | x :: r=>by
   by_cases hx:x=0
   ·exact .inr ⟨0,by simp,hx,fun i h=>absurd h (Nat.not_lt_zero _)⟩
   ·rcases ji r with h | ⟨k,h1,h2,h3⟩
    ·refine .inl fun i hi=>?_;cases i with
     | zero=>exact hx
     | succ i=>exact h i (by simpa using hi)
    ·refine .inr ⟨k+1,by simpa using h1,h2,fun i hi=>?_⟩;cases i with
     | zero=>exact hx
     | succ i=>exact h3 i oZm
theorem iT {x:Int} (h0:0≤x) (h1:x≤255):(UInt8.ofNat x.toNat==(0:UInt8))=decide (x=0):=by
 obtain ⟨m,rfl⟩:=Int.eq_ofNat_of_zero_le h0;have hm:m<256:=by omega
 rw [Bool.eq_iff_iff];simp only [beq_iff_eq,decide_eq_true_eq,Int.toNat_natCast];constructor
 ·intro e;have:=congrArg UInt8.toNat e;simp [Nat.mod_eq_of_lt hm] at this
  omega
 ·intro e;obtain rfl:m=0:=by omega
  rfl
theorem fK:∀{zs:List Int},(∀n∈zs,0≤n∧n≤255)→eq zs→Lib.indexByte (Lib.bytesOf zs) 0=-1
 | [],_,_=>rfl
 | x :: r,hb,h=>by
   have hx:=hb x (by simp);have ih:=fK (zs:=r) (fun n hn=>hb n (by simp [hn])) (fun i hi=>h (i+1) (by simpa using hi));have h0:x≠0:=h 0 (by simp);simp only [Lib.bytesOf,List.map_cons,Lib.indexByte,iT hx.1 hx.2,h0,decide_false,Bool.false_eq_true,if_false];have ih':Lib.indexByte (List.map (fun n=>UInt8.ofNat n.toNat) r) 0=-1:=ih;rw [ih'];rfl
theorem gJ:∀{zs:List Int} {k:Nat},(∀n∈zs,0≤n∧n≤255)→cV zs k→Lib.indexByte (Lib.bytesOf zs) 0=(k:Int)
 | [],k,_,h=>absurd h.1 (Nat.not_lt_zero _)
 | x :: r,k,hb,h=>by
   have hx:=hb x (by simp);cases k with
   | zero=>
     have h0:x=0:=h.2.1;simp only [Lib.bytesOf,List.map_cons,Lib.indexByte,h0];rfl
   | succ k=>
     have ih:=gJ (zs:=r) (k:=k) (fun n hn=>hb n (by simp [hn])) ⟨by simpa using h.1,h.2.1,fun i hi=>h.2.2 (i+1) oZm⟩;have h0:x≠0:=h.2.2 0 oZm;have ih':Lib.indexByte (List.map (fun n=>UInt8.ofNat n.toNat) r) 0=k:=ih;have hne:((k:Int)==-1)=false:=by rw [beq_eq_false_iff_ne];omega
     simp only [Lib.bytesOf,List.map_cons,Lib.indexByte,iT hx.1 hx.2,h0,decide_false,Bool.false_eq_true,if_false,ih',hne];omega
theorem fM (s:ByteArray):Lib.bytesOf (bs s)=s.data.toList:=by
 unfold Lib.bytesOf bs;rw [List.map_map];conv=>rhs;rw [←List.map_id s.data.toList]
 refine List.map_congr_left fun n _=>?_;simp
theorem jS (B:Nat) (a:Option Addr) (n c:Nat) (zs:List Int) (r:Int) (w:World) (hb:Bys w B a n zs) (hn:0<n) (hr:Lib.indexByte (Lib.bytesOf zs) 0=r) :
 Calls Tryz.prog 142 #[.slice a n c,.int .u8 0] w fun e w'=>e=.returned (.int .i64 r)∧w=w':=by
 obtain ⟨hz,_,hat⟩:=hb;obtain ⟨b,o,rfl,_,hcell⟩:=hat hn;have hrun:=hZz (Lib.run_indexByteSlice (P:=Tryz.prog) w b o n c zs hz hcell 0);have HR:Hid (Lib.indexByte (Lib.bytesOf zs) (0:Int).toNat.toUInt8=r):=hZz hr;clear hcell hat hz hr;go_enter Tryz.func142,Tryz.ntmps142
 go_wp2;rw [run_callFunc_extern Tryz.func159 (by kernel_rfl) (by kernel_rfl) (by kernel_rfl) (e:=Extern.BytealgIndexByte.indexByte) (by kernel_rfl),hrun.out,HR.out];simp only [Result.andThen];rw [Oper.upon_value];go_wp2;go_ret;exact ⟨rfl,rfl⟩
theorem mT (s:ByteArray) (r:Int) (w:World) (hr:Lib.indexByte s.data.toList 0=r) :
 Calls Tryz.prog 154 #[.string s,.int .u8 0] w fun e w'=>e=.returned (.int .i64 r)∧w=w':=by
 have hrun:=hZz (Lib.run_indexByteString (P:=Tryz.prog) s 0 w);have HR:Hid (Lib.indexByte s.data.toList (0:Int).toNat.toUInt8=r):=hZz hr;clear hr;go_enter Tryz.func154,Tryz.ntmps154
 go_wp2;rw [run_callFunc_extern Tryz.func165 (by kernel_rfl) (by kernel_rfl) (by kernel_rfl) (e:=Extern.BytealgIndexByte.indexByte) (by kernel_rfl),hrun.out,HR.out];simp only [Result.andThen];rw [Oper.upon_value];go_wp2;go_ret;exact ⟨rfl,rfl⟩
theorem gP (s:ByteArray) (r:Int) (w:World) (hr:Lib.indexByte s.data.toList 0=r) :
 Calls Tryz.prog 121 #[.string s,.int .u8 0] w fun e w'=>e=.returned (.int .i64 r)∧w=w':=by
 have HR:=hZz hr;clear hr;go_enter Tryz.func121,Tryz.ntmps121
 go_wp2_with (go_at_call 154;refine (mT _ _ _ HR.out).mono ?_;rintro e w' ⟨rfl,rfl⟩);go_ret;exact ⟨rfl,rfl⟩
def chk (zs:List Int):Int:=if zs.length=0∨zs.getD 0 0≠0∨zs.getD (zs.length-1) 0≠0 then 11 else 0
theorem rg (B:Nat) (a:Option Addr) (len cap:Nat) (zs:List Int) (w:World) (hb:Bys w B a len zs) (hl:(len:Int)≤9223372036854775807) :
 Calls Tryz.prog 101 #[.slice a len cap] w fun e w'=>e=.returned (.int .i64 (chk zs))∧w=w':=by
 obtain ⟨hz,hbd,hat⟩:=hb;rcases Nat.eq_zero_or_pos len with h0 | h0
 ·subst h0;have hc:chk zs=11:=by unfold chk;rw [if_pos (.inl hz)]
  rw [hc];clear hz hbd hat hc;go_enter Tryz.func101,Tryz.ntmps101
  go_wp2;go_ret;exact ⟨rfl,rfl⟩
 ·obtain ⟨b,off,rfl,_,hcell⟩:=hat h0;have hn:decide (len=0)=false:=by simp;omega
  have hni:((len:Int)==0)=false:=by rw [beq_eq_false_iff_ne];omega
  have c0:=hcell 0 h0;have c1:=hcell (len-1) oZm;rw [Nat.add_zero] at c0;unfold chk;rw [hz];have h1:1≤len:=h0;have h1i:1≤(len:Int):=by omega
  obtain ⟨x,hx⟩:∃x,x=zs.getD 0 0:=⟨_,rfl⟩
  obtain ⟨y,hy⟩:∃y,y=zs.getD (len-1) 0:=⟨_,rfl⟩
  rw [←hx] at c0⊢;rw [←hy] at c1⊢;clear hcell hat hz hbd hx hy;by_cases hx0:x=0
  ·subst hx0;by_cases hy0:y=0
   ·subst hy0;rw [if_neg (by omega)];go_enter Tryz.func101,Tryz.ntmps101
    go_wp2;go_ret;exact ⟨rfl,rfl⟩
   ·rw [if_pos (by omega)];go_enter Tryz.func101,Tryz.ntmps101
    go_wp2;go_ret;exact ⟨rfl,rfl⟩
  ·rw [if_pos (by omega)];clear c1;go_enter Tryz.func101,Tryz.ntmps101
   go_wp2;go_ret;exact ⟨rfl,rfl⟩
theorem rW (a:Option Addr) (len cap:Nat) (p:Int) (w:World) (hl:(len:Int)≤9223372036854775807) (hp:(len:Int)≤p) :
 Calls Tryz.prog 102 #[.slice a len cap,.int .u64 p] w fun e w'=>e=.returned (.tuple #[.string .empty,.int .i64 10])∧w=w':=by
 go_enter Tryz.func102,Tryz.ntmps102
 go_wp2;go_ret2;exact ⟨rfl,rfl⟩
theorem vp (B:Nat) (a:Option Addr) (len cap:Nat) (zs:List Int) (p:Nat) (w:World) (hb:Bys w B a len zs) (hcap:len≤cap) (hcm:(cap:Int)≤9223372036854775807) (hp:p<len) (hz:eq (am zs p (len-p))) :
 Calls Tryz.prog 102 #[.slice a len cap,.int .u64 p] w fun e w'=>e=.returned (.tuple #[.string .empty,.int .i64 11])∧w=w':=by
 obtain ⟨b,off,rfl,_,_⟩:=hb.2.2 oZm;have HS:=hZz (hb.sub (p:=p) (n:=len-p) oZm);have HI:=hZz (fK HS.out.2.1 hz);have hpi:(p:Int)<(len:Int):=by omega
 clear hb hz;go_enter Tryz.func102,Tryz.ntmps102
 go_wp2_with (go_at_call 142;refine (jS _ _ _ _ _ _ _ HS.out oZm HI.out).mono ?_;rintro e w' ⟨rfl,rfl⟩);go_ret2;exact ⟨rfl,rfl⟩
def iD (e:Int×Int):List Int:=ai e.1 8++ai e.2 8
theorem om (e:Int×Int):(iD e).length=16:=by simp [iD,ay]
theorem vd (e:Int×Int):∀n∈iD e,0≤n∧n≤255:=by
 intro n hn;rcases List.mem_append.1 hn with h | h
 ·exact bE _ _ n h
 ·exact bE _ _ n h
def cu (E:List (Int×Int)):List Int:=E.flatMap iD
theorem eV:∀E:List (Int×Int),(cu E).length=16*E.length
 | []=>rfl
 | e :: E=>by
   have:=eV E;unfold cu at this⊢;rw [List.flatMap_cons,lZa,om,this,List.length_cons];omega
theorem rV (E:List (Int×Int)):∀n∈cu E,0≤n∧n≤255:=by
 intro n hn;obtain ⟨e,_,he⟩:=List.mem_flatMap.1 hn;exact vd e n he
theorem bW (E:List (Int×Int)) (e:Int×Int):cu (E++[e])=cu E++iD e:=by
 unfold cu;rw [List.flatMap_append];simp
def ei (zs:List Int) (k:Nat):Int:=num (am zs (16*k) 8)
def fF (zs:List Int) (k:Nat):Int:=num (am zs (16*k+8) 8)
theorem sp {zs:List Int} (hb:∀n∈zs,0≤n∧n≤255) {k:Nat} (h:16*k+16≤zs.length):0≤ei zs k∧ei zs k≤18446744073709551615:=by
 have:=aB (p:=16*k) (k:=8) hb oZm;unfold ei;omega
theorem rY {zs:List Int} (hb:∀n∈zs,0≤n∧n≤255) {k:Nat} (h:16*k+16≤zs.length):0≤fF zs k∧fF zs k≤18446744073709551615:=by
 have:=aB (p:=16*k+8) (k:=8) hb oZm;unfold fF;omega
def bo:List Int:=[14,5,10,6,1610612749,7,8]
def fD (t:Int):Option Nat:=
 if t=14 then some 0 else if t=5 then some 1 else if t=10 then some 2 else if t=6 then some 3 else if t=1610612749 then some 4 else if t=7 then some 5 else if t=8 then some 6 else none
theorem dU {t:Int} {i:Nat} (h:fD t=some i):i<7∧bo.getD i 0=t:=by
 unfold fD at h;split at h
 ·injection h with h;subst h;subst_vars;decide
 ·split at h
  ·injection h with h;subst h;subst_vars;decide
  ·split at h
   ·injection h with h;subst h;subst_vars;decide
   ·split at h
    ·injection h with h;subst h;subst_vars;decide
    ·split at h
     ·injection h with h;subst h;subst_vars;decide
     ·split at h
      ·injection h with h;subst h;subst_vars;decide
      ·split at h
       ·injection h with h;subst h;subst_vars;decide
       ·cases h
theorem lw {i:Nat} (h:i<7):fD (bo.getD i 0)=some i:=by
 have:i=0∨i=1∨i=2∨i=3∨i=4∨i=5∨i=6:=by omega
 rcases this with rfl | rfl | rfl | rfl | rfl | rfl | rfl<;>rfl
theorem hH {i:Nat} (h:i<7):bo.getD i 0≠0∧bo.getD i 0≠1∧0≤bo.getD i 0∧bo.getD i 0≤18446744073709551615:=by
 have:i=0∨i=1∨i=2∨i=3∨i=4∨i=5∨i=6:=by omega
 rcases this with rfl | rfl | rfl | rfl | rfl | rfl | rfl<;>decide
structure StD where
 nd:List Int
 v:List Int
 seen:List Bool
def dq:StD:=⟨[],[0,0,0,0,0,0,0],[false,false,false,false,false,false,false]⟩
def jn (s:StD):Bool:=s.seen.getD 1 false && (s.seen.getD 2 false && (s.seen.getD 3 false==s.seen.getD 4 false && s.seen.getD 5 false==s.seen.getD 6 false))
def eM (zs:List Int):Nat→Nat→StD→Int×StD
 | 0,_,_=>(10,dq)
 | f+1,k,s=>
   if zs.length<16*k+16 then (10,dq)
   else if ei zs k=0 then (if jn s=true then (0,s) else (11,dq))
   else if ei zs k=1 then eM zs f (k+1) ⟨s.nd++[fF zs k],s.v,s.seen⟩
   else match fD (ei zs k) with
    | none=>(11,dq)
    | some i=>if s.seen.getD i false=true then (12,dq) else eM zs f (k+1) ⟨s.nd,s.v.set i (fF zs k),s.seen.set i true⟩
def dS (zs:List Int):Int×StD:=eM zs (zs.length+1) 0 dq
theorem qY {zs:List Int} {k:Nat} {s:StD} (hk:16*k≤zs.length) (h:zs.length<16*k+16):eM zs (zs.length+1-k) k s=(10,dq):=by
 obtain ⟨f,hf⟩:∃f,zs.length+1-k=f+1:=⟨zs.length-k,by omega⟩
 rw [hf,eM,if_pos h]
theorem uW {zs:List Int} {k:Nat} {s:StD} (h:16*k+16≤zs.length) (ht:ei zs k=0):eM zs (zs.length+1-k) k s=if jn s=true then (0,s) else (11,dq):=by
 obtain ⟨f,hf⟩:∃f,zs.length+1-k=f+1:=⟨zs.length-k,by omega⟩
 rw [hf,eM,if_neg oZm,if_pos ht]
theorem tK {zs:List Int} {k:Nat} {s:StD} (h:16*k+16≤zs.length) (ht:ei zs k=1):eM zs (zs.length+1-k) k s=eM zs (zs.length+1-(k+1)) (k+1) ⟨s.nd++[fF zs k],s.v,s.seen⟩:=by
 obtain ⟨f,hf⟩:∃f,zs.length+1-k=f+1:=⟨zs.length-k,by omega⟩
 rw [hf,show zs.length+1-(k+1)=f by omega,eM,if_neg oZm,if_neg oZm,if_pos ht]
theorem su {zs:List Int} {k:Nat} {s:StD} (h:16*k+16≤zs.length) (h0:ei zs k≠0) (h1:ei zs k≠1) (hi:fD (ei zs k)=none):eM zs (zs.length+1-k) k s=(11,dq):=by
 obtain ⟨f,hf⟩:∃f,zs.length+1-k=f+1:=⟨zs.length-k,by omega⟩
 rw [hf,eM,if_neg oZm,if_neg h0,if_neg h1,hi]
theorem ur {zs:List Int} {k i:Nat} {s:StD} (h:16*k+16≤zs.length) (h0:ei zs k≠0) (h1:ei zs k≠1) (hi:fD (ei zs k)=some i) (hs:s.seen.getD i false=true):eM zs (zs.length+1-k) k s=(12,dq):=by
 obtain ⟨f,hf⟩:∃f,zs.length+1-k=f+1:=⟨zs.length-k,by omega⟩
 rw [hf,eM,if_neg oZm,if_neg h0,if_neg h1,hi];simp only [hs,if_true]
theorem uz {zs:List Int} {k i:Nat} {s:StD} (h:16*k+16≤zs.length) (h0:ei zs k≠0) (h1:ei zs k≠1) (hi:fD (ei zs k)=some i) (hs:s.seen.getD i false=false) :
 eM zs (zs.length+1-k) k s=eM zs (zs.length+1-(k+1)) (k+1) ⟨s.nd,s.v.set i (fF zs k),s.seen.set i true⟩:=by
 obtain ⟨f,hf⟩:∃f,zs.length+1-k=f+1:=⟨zs.length-k,by omega⟩
 rw [hf,show zs.length+1-(k+1)=f by omega,eM,if_neg oZm,if_neg h0,if_neg h1,hi];simp only [hs,Bool.false_eq_true,if_false]
structure nK (s:StD):Prop where
 v:s.v.length=7
 seen:s.seen.length=7
theorem vt:nK dq:=⟨rfl,rfl⟩
theorem nK.need {s:StD} (h:nK s) (x:Int):nK ⟨s.nd++[x],s.v,s.seen⟩:=⟨h.v,h.seen⟩
theorem nK.set {s:StD} (h:nK s) (i:Nat) (x:Int):nK ⟨s.nd,s.v.set i x,s.seen.set i true⟩:=⟨by simp [h.v],by simp [h.seen]⟩
def cL (V:List Int) (i:Nat):Bool:=!(decide (i=0∧V.getD 0 0=0) || (decide ((i=3∨i=4)∧V.getD 4 0=0) || decide (5≤i∧V.getD 6 0=0)))
def aj (V:List Int) (k:Nat):List (Int×Int):=((List.range k).filter (cL V)).map fun i=>(bo.getD i 0,V.getD i 0)
theorem aP (V:List Int) (k:Nat):aj V (k+1)=aj V k++(if cL V k=true then [(bo.getD k 0,V.getD k 0)] else []):=by
 unfold aj;rw [List.range_succ,List.filter_append,List.map_append]
 congr 1
 by_cases h:cL V k=true
 ·simp [h]
 ·simp [h]
def nj (N V:List Int):List (Int×Int):=N.map (fun x=>(1,x))++(aj V 7++[(0,0)])
def bf (N V:List Int):List Int:=cu (nj N V)
structure Sy where
 na:Int
 inf:Int
 ot:Int
 se:Int
 va:Int
 si:Int
structure Sy.Ok (s:Sy):Prop where
 na:0≤s.na∧s.na≤4294967295
 inf:0≤s.inf∧s.inf≤255
 ot:0≤s.ot∧s.ot≤255
 se:0≤s.se∧s.se≤65535
 va:0≤s.va∧s.va≤18446744073709551615
 si:0≤s.si∧s.si≤18446744073709551615
def Sy.val (s:Sy):Value:=.agg #[.int .u32 s.na,.int .u8 s.inf,.int .u8 s.ot,.int .u16 s.se,.int .u64 s.va,.int .u64 s.si]
def Sy.zero:Sy:=⟨0,0,0,0,0,0⟩
structure Sy.At (w:World) (b o:Nat) (s:Sy):Prop where
 c0:w.cell? ⟨b,o,none⟩=some (.int .u32 s.na)
 c1:w.cell? ⟨b,o+1,none⟩=some (.int .u8 s.inf)
 c2:w.cell? ⟨b,o+2,none⟩=some (.int .u8 s.ot)
 c3:w.cell? ⟨b,o+3,none⟩=some (.int .u16 s.se)
 c4:w.cell? ⟨b,o+4,none⟩=some (.int .u64 s.va)
 c5:w.cell? ⟨b,o+5,none⟩=some (.int .u64 s.si)
theorem Sy.At.below {w w':World} {B b o:Nat} {s:Sy} (h:Sy.At w b o s) (hb:Below B w w') (hB:b<B):Sy.At w' b o s:=
 ⟨(hb.cell hB).trans h.c0,(hb.cell hB).trans h.c1,(hb.cell hB).trans h.c2,(hb.cell hB).trans h.c3,(hb.cell hB).trans h.c4,(hb.cell hB).trans h.c5⟩
theorem Sy.getD_mem {L:List Sy} {k:Nat} (h:k<L.length):L.getD k Sy.zero∈L:=by
 rw [gZe,gZg h];exact List.getElem_mem h
structure Sy.Sl (w:World) (B:Nat) (a:Option Addr) (len:Nat) (L:List Sy):Prop where
 hl:L.length=len
 hok:∀s∈L,s.Ok
 hc:0<len→∃b off,a=some ⟨b,off,none⟩∧b<B∧∀i,i<len→Sy.At w b (off+i*6) (L.getD i Sy.zero)
theorem Sy.Sl.empty (w:World) (B:Nat) (a:Option Addr):Sy.Sl w B a 0 []:=⟨rfl,fun _ h=>(by cases h),fun h=>absurd h oZm⟩
theorem Sy.Sl.okAt {w:World} {B:Nat} {a:Option Addr} {len:Nat} {L:List Sy} (h:Sy.Sl w B a len L) {i:Nat} (hi:i<len):(L.getD i Sy.zero).Ok:=
 h.hok _ (Sy.getD_mem (by have:=h.hl;omega))
theorem Sy.cs {w:World} {g:Nat} {v0 v1 v2 v3 v4 v5:Value} {t:TypeId} (h:Blk w g #[v0,v1,v2,v3,v4,v5] t) :
 w.cell? ⟨g,0,none⟩=some v0∧w.cell? ⟨g,1,none⟩=some v1∧w.cell? ⟨g,2,none⟩=some v2∧w.cell? ⟨g,3,none⟩=some v3∧w.cell? ⟨g,4,none⟩=some v4∧w.cell? ⟨g,5,none⟩=some v5:=
 ⟨h.cell 0,h.cell 1,h.cell 2,h.cell 3,h.cell 4,h.cell 5⟩
def Sy.flat (L:List Sy):List Value:=L.flatMap fun s=>[.int .u32 s.na,.int .u8 s.inf,.int .u8 s.ot,.int .u16 s.se,.int .u64 s.va,.int .u64 s.si]
theorem Sy.flat_snoc (L:List Sy) (s:Sy):Sy.flat (L++[s])=Sy.flat L++[.int .u32 s.na,.int .u8 s.inf,.int .u8 s.ot,.int .u16 s.se,.int .u64 s.va,.int .u64 s.si]:=by
 unfold Sy.flat;rw [List.flatMap_append];simp
theorem Sy.flat_len:∀L:List Sy,(Sy.flat L).length=L.length*6
 | []=>rfl
 | s :: L=>by
   have:=Sy.flat_len L;unfold Sy.flat at this⊢;rw [List.flatMap_cons,lZa,this];simp [Nat.add_mul];omega
theorem Sy.flat_at:∀(L:List Sy) (i:Nat),i<L.length→(Sy.flat L)[i*6]?=some (.int .u32 (L.getD i Sy.zero).na)∧(Sy.flat L)[i*6+1]?=some (.int .u8 (L.getD i Sy.zero).inf)∧(Sy.flat L)[i*6+2]?=some (.int .u8 (L.getD i Sy.zero).ot)∧(Sy.flat L)[i*6+3]?=some (.int .u16 (L.getD i Sy.zero).se)∧(Sy.flat L)[i*6+4]?=some (.int .u64 (L.getD i Sy.zero).va)∧(Sy.flat L)[i*6+5]?=some (.int .u64 (L.getD i Sy.zero).si)
 | [],i,h=>by simp at h
 | s :: L,0,_=>by simp [Sy.flat]
 | s :: L,i+1,h=>by
   have:=Sy.flat_at L i (by simpa using h);unfold Sy.flat at this⊢;rw [List.flatMap_cons];have e:∀j,([.int .u32 s.na,.int .u8 s.inf,.int .u8 s.ot,.int .u16 s.se,.int .u64 s.va,.int .u64 s.si]++L.flatMap (fun s=>[.int .u32 s.na,.int .u8 s.inf,.int .u8 s.ot,.int .u16 s.se,.int .u64 s.va,.int .u64 s.si]):List Value)[(i+1)*6+j]?=(L.flatMap (fun s=>[.int .u32 s.na,.int .u8 s.inf,.int .u8 s.ot,.int .u16 s.se,.int .u64 s.va,.int .u64 s.si]):List Value)[i*6+j]?:=fun j=>by
    rw [List.getElem?_append_right (by simp;omega)]
    congr 1
    simp;omega
   have e0:=e 0;simp only [Nat.add_zero] at e0;rw [e0,e 1,e 2,e 3,e 4,e 5];simpa using this
theorem Sy.Sl.own {w:World} {base:Nat} {e:TypeId} {a:Option Addr} {len cap:Nat} {L:List Sy} (hok:∀s∈L,s.Ok) (h:w.ownsRow base e 6 (.slice a len cap) len (Sy.flat L)):Sy.Sl w w.heap.size a len L:=by
 have hl:L.length=len:=by have:=h.1;rw [Sy.flat_len] at this;omega
 refine ⟨hl,hok,fun hp=>?_⟩;obtain ⟨g,rfl,hlt⟩:∃g,a=some ⟨g,0,none⟩∧g<w.heap.size:=by
  rcases h.2 with ⟨_,e0⟩ | ⟨g,c,cur,hv,_,hg,_⟩
  ·omega
  ·refine ⟨g,by injection hv,?_⟩;obtain ⟨hlt,_⟩:=Array.getElem?_eq_some_iff.1 hg;exact hlt
 refine ⟨g,0,rfl,hlt,fun i hi=>?_⟩;obtain ⟨f0,f1,f2,f3,f4,f5⟩:=Sy.flat_at L i oZm;simp only [Nat.zero_add];exact ⟨(h.cellAt _ oZm).trans f0,(h.cellAt _ oZm).trans f1,(h.cellAt _ oZm).trans f2,(h.cellAt _ oZm).trans f3,(h.cellAt _ oZm).trans f4,(h.cellAt _ oZm).trans f5⟩
theorem Sy.own_below {w w':World} {base n:Nat} {e:TypeId} {v:Value} {xs:List Value} (h:w.ownsRow base e 6 v n xs) (hb:Below w.heap.size w w'):w'.ownsRow base e 6 v n xs:=
 h.kept (row:=none) ⟨hb.os,hb.tape,hb.output,hb.size,fun k hk _=>hb.block k hk⟩ (by cases v.ownBlock<;>simp)
def bq (s:Sy):List Int:=ai s.na 4++([s.inf,s.ot]++(ai s.se 2++(ai s.va 8++ai s.si 8)))
theorem cA (s:Sy):(bq s).length=24:=by simp only [bq,lZa,ay,List.length_cons,List.length_nil]
theorem eA {s:Sy} (h:s.Ok):∀n∈bq s,0≤n∧n≤255:=by
 intro n hn;simp only [bq,List.mem_append,List.mem_cons,List.not_mem_nil,or_false] at hn;rcases hn with h1 | (rfl | rfl) | h1 | h1 | h1
 ·exact bE _ _ n h1
 ·exact h.inf
 ·exact h.ot
 ·exact bE _ _ n h1
 ·exact bE _ _ n h1
 ·exact bE _ _ n h1
def lA (zs:List Int) (k:Nat):Sy:=⟨num (am zs (24*k) 4),zs.getD (24*k+4) 0,zs.getD (24*k+5) 0,num (am zs (24*k+6) 2),num (am zs (24*k+8) 8),num (am zs (24*k+16) 8)⟩
theorem nY {zs:List Int} (hb:∀n∈zs,0≤n∧n≤255) {i:Nat} (h:i<zs.length):0≤zs.getD i 0∧zs.getD i 0≤255:=by
 rw [gZe,gZg h];exact hb _ (List.getElem_mem h)
theorem kF {zs:List Int} (hb:∀n∈zs,0≤n∧n≤255) {k:Nat} (h:24*k+24≤zs.length):(lA zs k).Ok:=by
 have h0:=aB (p:=24*k) (k:=4) hb oZm;have h3:=aB (p:=24*k+6) (k:=2) hb oZm;have h4:=aB (p:=24*k+8) (k:=8) hb oZm;have h5:=aB (p:=24*k+16) (k:=8) hb oZm;have h1:=nY (i:=24*k+4) hb oZm;have h2:=nY (i:=24*k+5) hb oZm;constructor<;>simp only [lA]<;>omega
def dA (zs:List Int) (n:Nat):List Sy:=(List.range n).map (lA zs)
theorem jL (zs:List Int) (n:Nat):(dA zs n).length=n:=by simp [dA]
theorem mC (zs:List Int) (k:Nat):dA zs (k+1)=dA zs k++[lA zs k]:=by simp [dA,List.range_succ]
theorem pH {zs:List Int} {n:Nat} (hb:∀x∈zs,0≤x∧x≤255) (hl:24*n≤zs.length):∀s∈dA zs n,s.Ok:=by
 intro s hs;simp only [dA,List.mem_map,List.mem_range] at hs;obtain ⟨k,hk,rfl⟩:=hs;exact kF hb oZm
def el (zs:List Int):Int×List Sy:=if zs.length % 24=0 then (0,dA zs (zs.length / 24)) else (10,[])
theorem uS {zs:List Int} (hb:∀x∈zs,0≤x∧x≤255):∀s∈(el zs).2,s.Ok:=by
 unfold el;split
 ·exact pH hb oZm
 ·intro s hs;cases hs
def gD (k:Nat) (s:Sy):Bool:=
 if k=0 then decide (¬(s.na=0∧s.inf=0∧s.ot=0∧s.se=0∧s.va=0∧s.si=0))
 else decide (2<s.inf / 16∨¬(s.inf % 16=0∨s.inf % 16=1∨s.inf % 16=2∨s.inf % 16=6)∨s.ot≠0∨1<s.se∨s.na=0∨(s.se=0∧(s.va≠0∨s.si≠0∨s.inf / 16=0)))
def dC (L:List Sy):Int:=if (List.range L.length).any (fun k=>gD k (L.getD k Sy.zero)) then 11 else 0
theorem pP {L:List Sy} {k:Nat} (hk:k<L.length) (h:gD k (L.getD k Sy.zero)=true):dC L=11:=by
 unfold dC;rw [if_pos];exact List.any_eq_true.2 ⟨k,List.mem_range.2 hk,h⟩
theorem nC {L:List Sy} (h:∀k,k<L.length→gD k (L.getD k Sy.zero)=false):dC L=0:=by
 unfold dC;rw [if_neg];intro hh;obtain ⟨k,hk,hb⟩:=List.any_eq_true.1 hh;rw [h k (List.mem_range.1 hk)] at hb;cases hb
theorem rP {L:List Sy} {k:Nat} (h:∀j,j<k→gD j (L.getD j Sy.zero)=false) (hk:gD k (L.getD k Sy.zero)=false):∀j,j<k+1→gD j (L.getD j Sy.zero)=false:=by
 intro j hj;by_cases e:j=k
 ·subst e;exact hk
 ·exact h j oZm
end Go.Proofs.YtclgbdfkdbbinaaGreat
