/-
  What is proved here: words and contracts, a part of those that the statement rests on (C3).
  Conditions: none but that the arguments are values of their types.
-/
import Derived.Test.YtclgbdfkdbbinaaGreatC2
import Derived.Test.YtclgbdfkdbbinaaGreatC1
import Derived.Test.YtclgbdfkdbbinaaGreatRows
set_option linter.unusedVariables false
set_option linter.unusedSimpArgs false
set_option maxRecDepth 100000
set_option maxHeartbeats 12800000
namespace Go.Proofs.YtclgbdfkdbbinaaGreat
open Go.RowKit
theorem k4_find_at {p:Sg→Bool}:∀{L:List Sg} {k:Nat},(∀j,j<k→p (L.getD j sg0)=false)→k<L.length→p (L.getD k sg0)=true→L.find? p=some (L.getD k sg0)
 | [],k,_,h,_=>by simp at h
 | s :: L,0,_,_,h=>by
   have h':p s=true:=h;rw [List.find?_cons_of_pos h'];rfl
 | s :: L,k+1,h0,h1,h2=>by
   have h':p s=false:=h0 0 (by omega);rw [List.find?_cons_of_neg (by rw [h'];decide)];exact k4_find_at (L:=L) (k:=k) (fun j hj=>h0 (j+1) (by omega)) (by simpa using h1) h2
theorem find_no {p:Sg→Bool} {L:List Sg} (h:∀j,j<L.length→p (L.getD j sg0)=false):L.find? p=none:=by
 rw [List.find?_eq_none];intro s hs;obtain ⟨i,hi,rfl⟩:=List.getElem_of_mem hs;have:=h i hi;rw [List.getD_eq_getElem?_getD,List.getElem?_eq_getElem hi] at this;simpa using this
theorem any_find (p:Sg→Bool) (L:List Sg):L.any p=(L.find? p).isSome:=by
 rw [Bool.eq_iff_iff,List.any_eq_true,List.find?_isSome]
def foundV:Option Sg→Value
 | none=>sg0.val
 | some s=>s.val
def placeB (addr size:Int) (s:Sg):Bool:=(s.ty==1) && contB s.va s.fi addr size
theorem place1_any (s:Sg) (b1 b2:Nat) (addr size:Int) (w:World) (h:s.Ok) (a0:0≤addr) (a1:addr≤18446744073709551615) (z0:0≤size) (z1:size≤18446744073709551615)
 (h1:w.cell? ⟨b1,0,none⟩=some (.int .u64 addr)) (h2:w.cell? ⟨b2,0,none⟩=some (.int .u64 size)) :
 Calls Tryz.prog 158 #[s.val,.pointer (some ⟨b1,0,none⟩),.pointer (some ⟨b2,0,none⟩)] w fun e w'=>e=.returned (.bool (placeB addr size s))∧Below w.heap.size w w':=by
 obtain ⟨-,-,-,⟨d0,d1⟩,⟨e0,e1⟩,-,-⟩:=h;obtain ⟨ty,fl,ot,va,fi,me,al⟩:=s;simp only at d0 d1 e0 e1;have hbl:∀o,Below w.heap.size w (w.alloc o):=fun o=>(Below.refl _ _).alloc (Nat.le_refl _) o;have hb1:=block_lt h1;have hb2:=block_lt h2;simp only at hb1 hb2;have H1:∀o,(w.alloc o).cell? ⟨b1,0,none⟩=some (.int .u64 addr):=fun o=>by rw [World.cell?_alloc_past _ _ _ hb1];exact h1
 have H2:∀o,(w.alloc o).cell? ⟨b2,0,none⟩=some (.int .u64 size):=fun o=>by rw [World.cell?_alloc_past _ _ _ hb2];exact h2
 have K:=Lib.hid (fun w1=>contains4_any va fi addr size w1 d0 d1 e0 e1 a0 a1 z0 z1);unfold placeB Sg.val;simp only
 by_cases ht:ty=1
 ·subst ht;go_enter Tryz.func158,Tryz.ntmps158
  go_wp2_with (go_at_call 139;refine (K.out _).mono ?_;rintro e w' ⟨rfl,rfl⟩);go_ret;exact ⟨by simp,hbl _⟩
 ·have ht':(ty==1)=false:=by simpa using ht
  go_enter Tryz.func158,Tryz.ntmps158
  go_wp2_with (go_at_call 139;refine (K.out _).mono ?_;rintro e w' ⟨rfl,rfl⟩);go_ret;exact ⟨by simp [ht'],hbl _⟩
theorem find1_any (s:Sg) (b1:Nat) (kind:Int) (w:World) (h1:w.cell? ⟨b1,0,none⟩=some (.int .u32 kind)) :
 Calls Tryz.prog 94 #[s.val,.pointer (some ⟨b1,0,none⟩)] w fun e w'=>e=.returned (.bool (s.ty==kind))∧Below w.heap.size w w':=by
 obtain ⟨ty,fl,ot,va,fi,me,al⟩:=s;have hbl:∀o,Below w.heap.size w (w.alloc o):=fun o=>(Below.refl _ _).alloc (Nat.le_refl _) o;have hb1:=block_lt h1;simp only at hb1;have H1:∀o,(w.alloc o).cell? ⟨b1,0,none⟩=some (.int .u32 kind):=fun o=>by rw [World.cell?_alloc_past _ _ _ hb1];exact h1
 unfold Sg.val;go_enter Tryz.func94,Tryz.ntmps94
 go_wp2;go_ret;exact ⟨by simp,hbl _⟩
theorem loaded1_any (s k:Sg) (b1:Nat) (w:World) (h:s.Ok) (hk:k.Ok) (h1:Sev w b1 0 s) :
 Calls Tryz.prog 138 #[k.val,.pointer (some ⟨b1,0,none⟩)] w fun e w'=>e=.returned (.bool (inB s k))∧Below w.heap.size w w':=by
 obtain ⟨-,-,⟨c0,c1⟩,⟨d0,d1⟩,⟨e0,e1⟩,-,-⟩:=h;obtain ⟨-,-,⟨i0,i1⟩,⟨j0,j1⟩,⟨k0,k1⟩,-,-⟩:=hk;have hbl:∀o,Below w.heap.size w (w.alloc o):=fun o=>(Below.refl _ _).alloc (Nat.le_refl _) o;have hb1:=block_lt h1.c0;simp only at hb1;have HS:∀o,Sev (w.alloc o) b1 0 s:=fun o=>h1.below (hbl o) hb1;have H2:=fun o=>(HS o).c2;have H3:=fun o=>(HS o).c3;have H4:=fun o=>(HS o).c4;obtain ⟨ty,fl,ot,va,fi,me,al⟩:=s;obtain ⟨kty,kfl,kot,kva,kfi,kme,kal⟩:=k;simp only [Nat.zero_add] at c0 c1 d0 d1 e0 e1 i0 i1 j0 j1 k0 k1 H2 H3 H4;have K:=Lib.hid (fun w1=>contains4_any kot kfi ot fi w1 i0 i1 k0 k1 c0 c1 e0 e1);obtain ⟨c,hc⟩:∃c,contB kot kfi ot fi=c:=⟨_,rfl⟩
 clear HS h1;unfold inB Sg.val;simp only
 rw [hc] at K⊢;clear hc;by_cases ht:kty=1
 ·subst ht;cases c with
  | true=>
    go_enter Tryz.func138,Tryz.ntmps138
    go_wp2_with (go_at_call 139;refine (K.out _).mono ?_;rintro e w' ⟨rfl,rfl⟩);go_ret;exact ⟨by simp,hbl _⟩
  | false=>
    go_enter Tryz.func138,Tryz.ntmps138
    go_wp2_with (go_at_call 139;refine (K.out _).mono ?_;rintro e w' ⟨rfl,rfl⟩);go_ret;exact ⟨by simp,hbl _⟩
 ·have ht':(kty==1)=false:=by simpa using ht
  go_enter Tryz.func138,Tryz.ntmps138
  go_wp2_with (go_at_call 139;refine (K.out _).mono ?_;rintro e w' ⟨rfl,rfl⟩);go_ret;exact ⟨by simp [ht'],hbl _⟩
theorem search39 (B:Nat) (a:Option Addr) (len cap:Nat) (L:List Sg) (p:Sg→Bool) (b1 b2:Nat) (w:World) (hs:Sgs w B a len L) (hB:B≤w.heap.size) (hl:(len:Int)≤9223372036854775807)
 (hp:∀s w1,s.Ok→Below w.heap.size w w1→Calls Tryz.prog 158 #[s.val,.pointer (some ⟨b1,0,none⟩),.pointer (some ⟨b2,0,none⟩)] w1 fun e w'=>e=.returned (.bool (p s))∧Below w1.heap.size w1 w') :
 Calls Tryz.prog 93 #[.slice a len cap,.func (.func 158) #[] #[.pointer (some ⟨b1,0,none⟩),.pointer (some ⟨b2,0,none⟩)]] w fun e w'=>e=.returned (.tuple #[foundV (L.find? p),.bool (L.find? p).isSome])∧Below w.heap.size w w':=by
 obtain ⟨r,hr⟩:∃r,L.find? p=r:=⟨_,rfl⟩
 rw [hr];have HR:=Lib.hid hr;have HS:=Lib.hid hs;have HP:=Lib.hid hp;clear hr hs hp;go_enter Tryz.func93,Tryz.ntmps93
 go_wp2;go_loopw [7,10] (fun _ i wr=>∃k:Nat,k≤len∧i=.int .i64 k∧(∀j,j<k→p (L.getD j sg0)=false)∧Blk wr w.heap.size sg0.cells 65∧Below w.heap.size w wr) (fun _ i _=>len-(intOf i).toNat)
 case atStart=>exact ⟨0,Nat.zero_le _,rfl,fun j hj=>absurd hj (by omega),Blk.new _ _ _,(Below.refl _ _).alloc (Nat.le_refl _) _⟩
 case round=>
  obtain ⟨k,hk,rfl,hno,hblk,hbel⟩:=hrel;by_cases hlt:k<len
  ·obtain ⟨b,off,rfl,hbB,hcell⟩:=HS.out.hc (by omega);have hsev:=(hcell k hlt).below (hbel.mono hB) hbB;have hok:=HS.out.okAt hlt;have hpk:=Lib.hid (HP.out (L.getD k sg0));have HAT:=Lib.hid (fun h=>k4_find_at (p:=p) (L:=L) hno (by have:=HS.out.hl;omega) h);have HNO:Hid (p (L.getD k sg0)=false→∀j,j<k+1→p (L.getD j sg0)=false):=Lib.hid (fun h j hj=>by
    by_cases e:j=k
    ·subst e;exact h
    ·exact hno j (by omega))
   obtain ⟨s,hsd⟩:∃s,L.getD k sg0=s:=⟨_,rfl⟩
   rw [hsd] at hsev hok hpk HAT HNO;obtain ⟨q,hq⟩:∃q,p s=q:=⟨_,rfl⟩
   rw [hq] at hpk HAT HNO;have HOK:=Lib.hid hok;clear hcell hsd hno hok;obtain ⟨s0,s1,s2,s3,s4,s5,s6⟩:=hsev;obtain ⟨ty,fl,ot,va,fi,me,al⟩:=s;simp only at s0 s1 s2 s3 s4 s5 s6;have hbs:=hbel.size;have HB2:Hid (∀o,Below w.heap.size w (wr.alloc o)):=Lib.hid (fun o=>hbel.alloc hbs o);have HK2:Hid (∀o,Blk (wr.alloc o) w.heap.size sg0.cells 65):=Lib.hid (fun o=>hblk.alloc o);clear hbel hblk;cases q with
   | true=>
     have hr2:=HAT.out rfl;rw [HR.out] at hr2;subst hr2;go_wp2_with fail;refine (hpk.out _ HOK.out (HB2.out _)).mono ?_;rintro e w2 ⟨rfl,hb2⟩;obtain ⟨p0,p1,p2,p3,p4,p5,p6⟩:=((Blk.new wr _ _).later hb2).c7;obtain ⟨q0,q1,q2,q3,q4,q5,q6⟩:=((HK2.out _).later hb2).c7;obtain ⟨f0,f1,f2,f3,f4,f5,f6⟩:=((HK2.out _).later hb2).f7;have HB3:=Lib.hid ((HB2.out _).trans (hb2.mono (HB2.out _).size));clear hb2;go_wp2;refine bodyPost_ret (v:=.tuple #[.agg #[.int .u32 ty,.int .u32 fl,.int .u64 ot,.int .u64 va,.int .u64 fi,.int .u64 me,.int .u64 al],.bool true]) (by simp [results,Tryz.results93,go_sem,q0,q1,q2,q3,q4,q5,q6]) rfl ⟨rfl,?_⟩;exact ((((((HB3.out.setCell (Nat.le_refl _) _).setCell (Nat.le_refl _) _).setCell (Nat.le_refl _) _).setCell (Nat.le_refl _) _).setCell (Nat.le_refl _) _).setCell (Nat.le_refl _) _).setCell (Nat.le_refl _) _
   | false=>
     go_wp2_with fail;refine (hpk.out _ HOK.out (HB2.out _)).mono ?_;rintro e w2 ⟨rfl,hb2⟩;have hk2:=(HK2.out (.cells #[.int .u32 ty,.int .u32 fl,.int .u64 ot,.int .u64 va,.int .u64 fi,.int .u64 me,.int .u64 al] 65)).later hb2;have hbb:=(HB2.out _).trans (hb2.mono (HB2.out _).size);clear hb2;go_wp2;go_roundw
     case rel=>exact ⟨k+1,by omega,by go_num,HNO.out (by trivial),hk2,hbb⟩
     case measure=>simp [intOf];omega
  ·obtain rfl:k=len:=by omega
   have hr2:=find_no (p:=p) (L:=L) (fun j hj=>hno j (by have:=HS.out.hl;omega));rw [HR.out] at hr2;subst hr2;obtain ⟨q0,q1,q2,q3,q4,q5,q6⟩:=hblk.c7;obtain ⟨f0,f1,f2,f3,f4,f5,f6⟩:=hblk.f7;go_wp2;refine bodyPost_ret (v:=.tuple #[.agg #[.int .u32 0,.int .u32 0,.int .u64 0,.int .u64 0,.int .u64 0,.int .u64 0,.int .u64 0],.bool false]) (by simp [results,Tryz.results93,go_sem,q0,q1,q2,q3,q4,q5,q6]) rfl ⟨rfl,?_⟩;exact ((((((hbel.setCell (Nat.le_refl _) _).setCell (Nat.le_refl _) _).setCell (Nat.le_refl _) _).setCell (Nat.le_refl _) _).setCell (Nat.le_refl _) _).setCell (Nat.le_refl _) _).setCell (Nat.le_refl _) _
theorem search41 (B:Nat) (a:Option Addr) (len cap:Nat) (L:List Sg) (p:Sg→Bool) (b1:Nat) (w:World) (hs:Sgs w B a len L) (hB:B≤w.heap.size) (hl:(len:Int)≤9223372036854775807)
 (hp:∀s w1,s.Ok→Below w.heap.size w w1→Calls Tryz.prog 94 #[s.val,.pointer (some ⟨b1,0,none⟩)] w1 fun e w'=>e=.returned (.bool (p s))∧Below w1.heap.size w1 w') :
 Calls Tryz.prog 93 #[.slice a len cap,.func (.func 94) #[] #[.pointer (some ⟨b1,0,none⟩)]] w fun e w'=>e=.returned (.tuple #[foundV (L.find? p),.bool (L.find? p).isSome])∧Below w.heap.size w w':=by
 obtain ⟨r,hr⟩:∃r,L.find? p=r:=⟨_,rfl⟩
 rw [hr];have HR:=Lib.hid hr;have HS:=Lib.hid hs;have HP:=Lib.hid hp;clear hr hs hp;go_enter Tryz.func93,Tryz.ntmps93
 go_wp2;go_loopw [7,10] (fun _ i wr=>∃k:Nat,k≤len∧i=.int .i64 k∧(∀j,j<k→p (L.getD j sg0)=false)∧Blk wr w.heap.size sg0.cells 65∧Below w.heap.size w wr) (fun _ i _=>len-(intOf i).toNat)
 case atStart=>exact ⟨0,Nat.zero_le _,rfl,fun j hj=>absurd hj (by omega),Blk.new _ _ _,(Below.refl _ _).alloc (Nat.le_refl _) _⟩
 case round=>
  obtain ⟨k,hk,rfl,hno,hblk,hbel⟩:=hrel;by_cases hlt:k<len
  ·obtain ⟨b,off,rfl,hbB,hcell⟩:=HS.out.hc (by omega);have hsev:=(hcell k hlt).below (hbel.mono hB) hbB;have hok:=HS.out.okAt hlt;have hpk:=Lib.hid (HP.out (L.getD k sg0));have HAT:=Lib.hid (fun h=>k4_find_at (p:=p) (L:=L) hno (by have:=HS.out.hl;omega) h);have HNO:Hid (p (L.getD k sg0)=false→∀j,j<k+1→p (L.getD j sg0)=false):=Lib.hid (fun h j hj=>by
    by_cases e:j=k
    ·subst e;exact h
    ·exact hno j (by omega))
   obtain ⟨s,hsd⟩:∃s,L.getD k sg0=s:=⟨_,rfl⟩
   rw [hsd] at hsev hok hpk HAT HNO;obtain ⟨q,hq⟩:∃q,p s=q:=⟨_,rfl⟩
   rw [hq] at hpk HAT HNO;have HOK:=Lib.hid hok;clear hcell hsd hno hok;obtain ⟨s0,s1,s2,s3,s4,s5,s6⟩:=hsev;obtain ⟨ty,fl,ot,va,fi,me,al⟩:=s;simp only at s0 s1 s2 s3 s4 s5 s6;have hbs:=hbel.size;have HB2:Hid (∀o,Below w.heap.size w (wr.alloc o)):=Lib.hid (fun o=>hbel.alloc hbs o);have HK2:Hid (∀o,Blk (wr.alloc o) w.heap.size sg0.cells 65):=Lib.hid (fun o=>hblk.alloc o);clear hbel hblk;cases q with
   | true=>
     have hr2:=HAT.out rfl;rw [HR.out] at hr2;subst hr2;go_wp2_with fail;refine (hpk.out _ HOK.out (HB2.out _)).mono ?_;rintro e w2 ⟨rfl,hb2⟩;obtain ⟨p0,p1,p2,p3,p4,p5,p6⟩:=((Blk.new wr _ _).later hb2).c7;obtain ⟨q0,q1,q2,q3,q4,q5,q6⟩:=((HK2.out _).later hb2).c7;obtain ⟨f0,f1,f2,f3,f4,f5,f6⟩:=((HK2.out _).later hb2).f7;have HB3:=Lib.hid ((HB2.out _).trans (hb2.mono (HB2.out _).size));clear hb2;go_wp2;refine bodyPost_ret (v:=.tuple #[.agg #[.int .u32 ty,.int .u32 fl,.int .u64 ot,.int .u64 va,.int .u64 fi,.int .u64 me,.int .u64 al],.bool true]) (by simp [results,Tryz.results93,go_sem,q0,q1,q2,q3,q4,q5,q6]) rfl ⟨rfl,?_⟩;exact ((((((HB3.out.setCell (Nat.le_refl _) _).setCell (Nat.le_refl _) _).setCell (Nat.le_refl _) _).setCell (Nat.le_refl _) _).setCell (Nat.le_refl _) _).setCell (Nat.le_refl _) _).setCell (Nat.le_refl _) _
   | false=>
     go_wp2_with fail;refine (hpk.out _ HOK.out (HB2.out _)).mono ?_;rintro e w2 ⟨rfl,hb2⟩;have hk2:=(HK2.out (.cells #[.int .u32 ty,.int .u32 fl,.int .u64 ot,.int .u64 va,.int .u64 fi,.int .u64 me,.int .u64 al] 65)).later hb2;have hbb:=(HB2.out _).trans (hb2.mono (HB2.out _).size);clear hb2;go_wp2;go_roundw
     case rel=>exact ⟨k+1,by omega,by go_num,HNO.out (by trivial),hk2,hbb⟩
     case measure=>simp [intOf];omega
  ·obtain rfl:k=len:=by omega
   have hr2:=find_no (p:=p) (L:=L) (fun j hj=>hno j (by have:=HS.out.hl;omega));rw [HR.out] at hr2;subst hr2;obtain ⟨q0,q1,q2,q3,q4,q5,q6⟩:=hblk.c7;obtain ⟨f0,f1,f2,f3,f4,f5,f6⟩:=hblk.f7;go_wp2;refine bodyPost_ret (v:=.tuple #[.agg #[.int .u32 0,.int .u32 0,.int .u64 0,.int .u64 0,.int .u64 0,.int .u64 0,.int .u64 0],.bool false]) (by simp [results,Tryz.results93,go_sem,q0,q1,q2,q3,q4,q5,q6]) rfl ⟨rfl,?_⟩;exact ((((((hbel.setCell (Nat.le_refl _) _).setCell (Nat.le_refl _) _).setCell (Nat.le_refl _) _).setCell (Nat.le_refl _) _).setCell (Nat.le_refl _) _).setCell (Nat.le_refl _) _).setCell (Nat.le_refl _) _
theorem search50 (B:Nat) (a:Option Addr) (len cap:Nat) (L:List Sg) (p:Sg→Bool) (b1:Nat) (w:World) (hs:Sgs w B a len L) (hB:B≤w.heap.size) (hl:(len:Int)≤9223372036854775807)
 (hp:∀s w1,s.Ok→Below w.heap.size w w1→Calls Tryz.prog 138 #[s.val,.pointer (some ⟨b1,0,none⟩)] w1 fun e w'=>e=.returned (.bool (p s))∧Below w1.heap.size w1 w') :
 Calls Tryz.prog 93 #[.slice a len cap,.func (.func 138) #[] #[.pointer (some ⟨b1,0,none⟩)]] w fun e w'=>e=.returned (.tuple #[foundV (L.find? p),.bool (L.find? p).isSome])∧Below w.heap.size w w':=by
 obtain ⟨r,hr⟩:∃r,L.find? p=r:=⟨_,rfl⟩
 rw [hr];have HR:=Lib.hid hr;have HS:=Lib.hid hs;have HP:=Lib.hid hp;clear hr hs hp;go_enter Tryz.func93,Tryz.ntmps93
 go_wp2;go_loopw [7,10] (fun _ i wr=>∃k:Nat,k≤len∧i=.int .i64 k∧(∀j,j<k→p (L.getD j sg0)=false)∧Blk wr w.heap.size sg0.cells 65∧Below w.heap.size w wr) (fun _ i _=>len-(intOf i).toNat)
 case atStart=>exact ⟨0,Nat.zero_le _,rfl,fun j hj=>absurd hj (by omega),Blk.new _ _ _,(Below.refl _ _).alloc (Nat.le_refl _) _⟩
 case round=>
  obtain ⟨k,hk,rfl,hno,hblk,hbel⟩:=hrel;by_cases hlt:k<len
  ·obtain ⟨b,off,rfl,hbB,hcell⟩:=HS.out.hc (by omega);have hsev:=(hcell k hlt).below (hbel.mono hB) hbB;have hok:=HS.out.okAt hlt;have hpk:=Lib.hid (HP.out (L.getD k sg0));have HAT:=Lib.hid (fun h=>k4_find_at (p:=p) (L:=L) hno (by have:=HS.out.hl;omega) h);have HNO:Hid (p (L.getD k sg0)=false→∀j,j<k+1→p (L.getD j sg0)=false):=Lib.hid (fun h j hj=>by
    by_cases e:j=k
    ·subst e;exact h
    ·exact hno j (by omega))
   obtain ⟨s,hsd⟩:∃s,L.getD k sg0=s:=⟨_,rfl⟩
   rw [hsd] at hsev hok hpk HAT HNO;obtain ⟨q,hq⟩:∃q,p s=q:=⟨_,rfl⟩
   rw [hq] at hpk HAT HNO;have HOK:=Lib.hid hok;clear hcell hsd hno hok;obtain ⟨s0,s1,s2,s3,s4,s5,s6⟩:=hsev;obtain ⟨ty,fl,ot,va,fi,me,al⟩:=s;simp only at s0 s1 s2 s3 s4 s5 s6;have hbs:=hbel.size;have HB2:Hid (∀o,Below w.heap.size w (wr.alloc o)):=Lib.hid (fun o=>hbel.alloc hbs o);have HK2:Hid (∀o,Blk (wr.alloc o) w.heap.size sg0.cells 65):=Lib.hid (fun o=>hblk.alloc o);clear hbel hblk;cases q with
   | true=>
     have hr2:=HAT.out rfl;rw [HR.out] at hr2;subst hr2;go_wp2_with fail;refine (hpk.out _ HOK.out (HB2.out _)).mono ?_;rintro e w2 ⟨rfl,hb2⟩;obtain ⟨p0,p1,p2,p3,p4,p5,p6⟩:=((Blk.new wr _ _).later hb2).c7;obtain ⟨q0,q1,q2,q3,q4,q5,q6⟩:=((HK2.out _).later hb2).c7;obtain ⟨f0,f1,f2,f3,f4,f5,f6⟩:=((HK2.out _).later hb2).f7;have HB3:=Lib.hid ((HB2.out _).trans (hb2.mono (HB2.out _).size));clear hb2;go_wp2;refine bodyPost_ret (v:=.tuple #[.agg #[.int .u32 ty,.int .u32 fl,.int .u64 ot,.int .u64 va,.int .u64 fi,.int .u64 me,.int .u64 al],.bool true]) (by simp [results,Tryz.results93,go_sem,q0,q1,q2,q3,q4,q5,q6]) rfl ⟨rfl,?_⟩;exact ((((((HB3.out.setCell (Nat.le_refl _) _).setCell (Nat.le_refl _) _).setCell (Nat.le_refl _) _).setCell (Nat.le_refl _) _).setCell (Nat.le_refl _) _).setCell (Nat.le_refl _) _).setCell (Nat.le_refl _) _
   | false=>
     go_wp2_with fail;refine (hpk.out _ HOK.out (HB2.out _)).mono ?_;rintro e w2 ⟨rfl,hb2⟩;have hk2:=(HK2.out (.cells #[.int .u32 ty,.int .u32 fl,.int .u64 ot,.int .u64 va,.int .u64 fi,.int .u64 me,.int .u64 al] 65)).later hb2;have hbb:=(HB2.out _).trans (hb2.mono (HB2.out _).size);clear hb2;go_wp2;go_roundw
     case rel=>exact ⟨k+1,by omega,by go_num,HNO.out (by trivial),hk2,hbb⟩
     case measure=>simp [intOf];omega
  ·obtain rfl:k=len:=by omega
   have hr2:=find_no (p:=p) (L:=L) (fun j hj=>hno j (by have:=HS.out.hl;omega));rw [HR.out] at hr2;subst hr2;obtain ⟨q0,q1,q2,q3,q4,q5,q6⟩:=hblk.c7;obtain ⟨f0,f1,f2,f3,f4,f5,f6⟩:=hblk.f7;go_wp2;refine bodyPost_ret (v:=.tuple #[.agg #[.int .u32 0,.int .u32 0,.int .u64 0,.int .u64 0,.int .u64 0,.int .u64 0,.int .u64 0],.bool false]) (by simp [results,Tryz.results93,go_sem,q0,q1,q2,q3,q4,q5,q6]) rfl ⟨rfl,?_⟩;exact ((((((hbel.setCell (Nat.le_refl _) _).setCell (Nat.le_refl _) _).setCell (Nat.le_refl _) _).setCell (Nat.le_refl _) _).setCell (Nat.le_refl _) _).setCell (Nat.le_refl _) _).setCell (Nat.le_refl _) _
theorem foundV_eq (r:Option Sg):foundV r=(r.getD sg0).val:=by cases r<;>rfl
def kindB (kind:Int) (s:Sg):Bool:=s.ty==kind
def placedS (s:Sg) (addr:Int):Int:=IntKind.u64.wrap (s.ot+(addr-s.va))
def placeV (L:List Sg) (addr size:Int):Value:=
 if size=0 then .tuple #[.int .u64 0,.int .i64 40]
 else match L.find? (placeB addr size) with
  | none=>.tuple #[.int .u64 0,.int .i64 40]
  | some s=>.tuple #[.int .u64 (placedS s addr),.int .i64 0]
theorem sfind_any (B:Nat) (a:Option Addr) (len cap:Nat) (L:List Sg) (kind:Int) (w:World) (hs:Sgs w B a len L) (hB:B≤w.heap.size) (hl:(len:Int)≤9223372036854775807) :
 Calls Tryz.prog 48 #[.slice a len cap,.int .u32 kind] w fun e w'=>e=.returned (.tuple #[foundV (L.find? (kindB kind)),.bool (L.find? (kindB kind)).isSome])∧Below w.heap.size w w':=by
 have hmf:∀(fn:Fn) (first cap:Array Value) (w:World),(Instr.makeFunc fn first cap).run Tryz.prog w=.ok (.func fn first cap) w:=fun _ _ _ _=>rfl;have hb0:Below w.heap.size w ((w.alloc (.cells #[.int .u32 kind] 63)).alloc (.cells sg0.cells 65)):=((Below.refl _ _).alloc (Nat.le_refl _) _).alloc (by simp) _;have hk:=search41 B a len cap L (kindB kind) w.heap.size ((w.alloc (.cells #[.int .u32 kind] 63)).alloc (.cells sg0.cells 65)) (hs.below (hb0.mono hB)) (by simp;omega) hl (fun s w1 _ h1=>
  find1_any s w.heap.size kind w1 ((((Blk.new w _ _).alloc _).later h1).cell 0))
 rw [foundV_eq] at hk⊢;obtain ⟨s,hs'⟩:∃s,(L.find? (kindB kind)).getD sg0=s:=⟨_,rfl⟩
 obtain ⟨q,hq⟩:∃q,(L.find? (kindB kind)).isSome=q:=⟨_,rfl⟩
 rw [hs',hq] at hk⊢;have K:=Lib.hid hk;have HB0:=Lib.hid hb0;clear hk hs hs' hq hb0;obtain ⟨ty,fl,ot,va,fi,me,al⟩:=s;unfold Sg.val Sg.cells sg0 at *;go_enter Tryz.func48,Tryz.ntmps48
 go_wp2_with fail;refine K.out.mono ?_;rintro e w2 ⟨rfl,hb2⟩;obtain ⟨q0,q1,q2,q3,q4,q5,q6⟩:=((Blk.new (w.alloc (.cells #[.int .u32 kind] 63)) _ _).later hb2).c7;obtain ⟨f0,f1,f2,f3,f4,f5,f6⟩:=((Blk.new (w.alloc (.cells #[.int .u32 kind] 63)) _ _).later hb2).f7;simp only [World.size_alloc] at q0 q1 q2 q3 q4 q5 q6 f0 f1 f2 f3 f4 f5 f6;have HB3:=Lib.hid (HB0.out.trans (hb2.mono HB0.out.size));clear hb2;go_wp2;refine bodyPost_ret (v:=.tuple #[.agg #[.int .u32 ty,.int .u32 fl,.int .u64 ot,.int .u64 va,.int .u64 fi,.int .u64 me,.int .u64 al],.bool q]) (by simp [results,Tryz.results48,go_sem,q0,q1,q2,q3,q4,q5,q6]) rfl ⟨rfl,?_⟩;exact ((((((HB3.out.setCell (Nat.le_succ _) _).setCell (Nat.le_succ _) _).setCell (Nat.le_succ _) _).setCell (Nat.le_succ _) _).setCell (Nat.le_succ _) _).setCell (Nat.le_succ _) _).setCell (Nat.le_succ _) _
theorem splace_any (B:Nat) (a:Option Addr) (len cap:Nat) (L:List Sg) (addr size:Int) (w:World) (hs:Sgs w B a len L) (hB:B≤w.heap.size) (hl:(len:Int)≤9223372036854775807) (a0:0≤addr) (a1:addr≤18446744073709551615) (z0:0≤size) (z1:size≤18446744073709551615) :
 Calls Tryz.prog 141 #[.slice a len cap,.int .u64 addr,.int .u64 size] w fun e w'=>e=.returned (placeV L addr size)∧Below w.heap.size w w':=by
 have hmf:∀(fn:Fn) (first cap:Array Value) (w:World),(Instr.makeFunc fn first cap).run Tryz.prog w=.ok (.func fn first cap) w:=fun _ _ _ _=>rfl;have hb0:Below w.heap.size w ((w.alloc (.cells #[.int .u64 addr] 24)).alloc (.cells #[.int .u64 size] 24)):=((Below.refl _ _).alloc (Nat.le_refl _) _).alloc (by simp) _;unfold placeV;by_cases h0:size=0
 ·subst h0;have HB0:=Lib.hid hb0;clear hb0 hs;go_enter Tryz.func141,Tryz.ntmps141
  go_wp2;go_ret2;exact ⟨rfl,HB0.out⟩
 ·rw [if_neg h0];have hk:=search39 B a len cap L (placeB addr size) w.heap.size (w.heap.size+1) ((w.alloc (.cells #[.int .u64 addr] 24)).alloc (.cells #[.int .u64 size] 24)) (hs.below (hb0.mono hB)) (by simp;omega) hl (fun s w1 hok h1=>
   place1_any s w.heap.size (w.heap.size+1) addr size w1 hok a0 a1 z0 z1 ((((Blk.new w _ _).alloc _).later h1).cell 0) (by
    have:=((Blk.new (w.alloc (.cells #[.int .u64 addr] 24)) #[.int .u64 size] 24).later h1).cell 0;simpa using this))
  have HA:Hid (∀w2,Below ((w.alloc (.cells #[.int .u64 addr] 24)).alloc (.cells #[.int .u64 size] 24)).heap.size ((w.alloc (.cells #[.int .u64 addr] 24)).alloc (.cells #[.int .u64 size] 24)) w2→w2.cell? ⟨w.heap.size,0,none⟩=some (.int .u64 addr)∧w.heap.size<w2.heap.size):=Lib.hid (fun w2 h2=>⟨(((Blk.new w _ _).alloc _).later h2).cell 0,by have:=h2.size;simp at this;omega⟩);have HB0:=Lib.hid hb0;have h0':(size==0)=false:=by simpa using h0
  clear hb0 hs;cases hf:L.find? (placeB addr size) with
  | none=>
    rw [hf] at hk;have K:=Lib.hid hk;clear hk hf;unfold foundV Sg.val sg0 at *;simp only [Option.isSome] at K;go_enter Tryz.func141,Tryz.ntmps141
    go_wp2_with fail;refine K.out.mono ?_;rintro e w2 ⟨rfl,hb2⟩;have HB3:=Lib.hid (HB0.out.trans (hb2.mono HB0.out.size));clear hb2;go_wp2;go_ret2;exact ⟨rfl,HB3.out.alloc HB3.out.size _⟩
  | some s=>
    rw [hf] at hk;have K:=Lib.hid hk;clear hk hf;have HP:Hid (IntKind.u64.wrap (IntKind.u64.wrap (s.ot+addr)-s.va)=placedS s addr):=Lib.hid (by
     unfold placedS;simp only [IntKind.wrap_u64];omega)
    obtain ⟨ty,fl,ot,va,fi,me,al⟩:=s;obtain ⟨r,hr⟩:∃r,placedS ⟨ty,fl,ot,va,fi,me,al⟩ addr=r:=⟨_,rfl⟩
    simp only [hr] at HP⊢;clear hr;unfold foundV Sg.val at *;simp only [Option.isSome] at K HP;go_enter Tryz.func141,Tryz.ntmps141
    go_wp2_with fail;refine K.out.mono ?_;rintro e w2 ⟨rfl,hb2⟩;obtain ⟨hca,hlt⟩:=HA.out w2 hb2;have hcb:∀o,(w2.alloc o).cell? ⟨w.heap.size,0,none⟩=some (.int .u64 addr):=fun o=>by rw [World.cell?_alloc_past _ _ _ hlt];exact hca
    have HB3:=Lib.hid (HB0.out.trans (hb2.mono HB0.out.size));have hpo:=HP.out;clear hb2;go_wp2;go_ret2;exact ⟨rfl,HB3.out.alloc HB3.out.size _⟩
def k2_NoZ (zs:List Int):Prop:=∀i,i<zs.length→zs.getD i 0≠0
def k2_FirstZ (zs:List Int) (k:Nat):Prop:=k<zs.length∧zs.getD k 0=0∧∀i,i<k→zs.getD i 0≠0
theorem k2_firstZ_or:∀zs:List Int,k2_NoZ zs∨∃k,k2_FirstZ zs k
 | []=>.inl (fun i h=>absurd h (Nat.not_lt_zero _))
 | x :: r=>by
   by_cases hx:x=0
   ·exact .inr ⟨0,by simp,hx,fun i h=>absurd h (Nat.not_lt_zero _)⟩
   ·rcases k2_firstZ_or r with h | ⟨k,h1,h2,h3⟩
    ·refine .inl fun i hi=>?_;cases i with
     | zero=>exact hx
     | succ i=>exact h i (by simpa using hi)
    ·refine .inr ⟨k+1,by simpa using h1,h2,fun i hi=>?_⟩;cases i with
     | zero=>exact hx
     | succ i=>exact h3 i (by omega)
theorem k2_byte_zero {x:Int} (h0:0≤x) (h1:x≤255):(UInt8.ofNat x.toNat==(0:UInt8))=decide (x=0):=by
 obtain ⟨m,rfl⟩:=Int.eq_ofNat_of_zero_le h0;have hm:m<256:=by omega
 rw [Bool.eq_iff_iff];simp only [beq_iff_eq,decide_eq_true_eq,Int.toNat_natCast];constructor
 ·intro e;have:=congrArg UInt8.toNat e;simp [Nat.mod_eq_of_lt hm] at this
  omega
 ·intro e;obtain rfl:m=0:=by omega
  rfl
theorem k2_idx_none:∀{zs:List Int},(∀n∈zs,0≤n∧n≤255)→k2_NoZ zs→Lib.indexByte (Lib.bytesOf zs) 0=-1
 | [],_,_=>rfl
 | x :: r,hb,h=>by
   have hx:=hb x (by simp);have ih:=k2_idx_none (zs:=r) (fun n hn=>hb n (by simp [hn])) (fun i hi=>h (i+1) (by simpa using hi));have h0:x≠0:=h 0 (by simp);simp only [Lib.bytesOf,List.map_cons,Lib.indexByte,k2_byte_zero hx.1 hx.2,h0,decide_false,Bool.false_eq_true,if_false];have ih':Lib.indexByte (List.map (fun n=>UInt8.ofNat n.toNat) r) 0=-1:=ih;rw [ih'];rfl
theorem k2_idx_some:∀{zs:List Int} {k:Nat},(∀n∈zs,0≤n∧n≤255)→k2_FirstZ zs k→Lib.indexByte (Lib.bytesOf zs) 0=(k:Int)
 | [],k,_,h=>absurd h.1 (Nat.not_lt_zero _)
 | x :: r,k,hb,h=>by
   have hx:=hb x (by simp);cases k with
   | zero=>
     have h0:x=0:=h.2.1;simp only [Lib.bytesOf,List.map_cons,Lib.indexByte,h0];rfl
   | succ k=>
     have ih:=k2_idx_some (zs:=r) (k:=k) (fun n hn=>hb n (by simp [hn])) ⟨by simpa using h.1,h.2.1,fun i hi=>h.2.2 (i+1) (by omega)⟩;have h0:x≠0:=h.2.2 0 (by omega);have ih':Lib.indexByte (List.map (fun n=>UInt8.ofNat n.toNat) r) 0=k:=ih;have hne:((k:Int)==-1)=false:=by rw [beq_eq_false_iff_ne];omega
     simp only [Lib.bytesOf,List.map_cons,Lib.indexByte,k2_byte_zero hx.1 hx.2,h0,decide_false,Bool.false_eq_true,if_false,ih',hne];omega
theorem k2_bytesOf_bs (s:ByteArray):Lib.bytesOf (bs s)=s.data.toList:=by
 unfold Lib.bytesOf bs;rw [List.map_map];conv=>rhs;rw [←List.map_id s.data.toList]
 refine List.map_congr_left fun n _=>?_;simp
theorem k2_bidx_any (B:Nat) (a:Option Addr) (n c:Nat) (zs:List Int) (r:Int) (w:World) (hb:Bys w B a n zs) (hn:0<n) (hr:Lib.indexByte (Lib.bytesOf zs) 0=r) :
 Calls Tryz.prog 142 #[.slice a n c,.int .u8 0] w fun e w'=>e=.returned (.int .i64 r)∧w=w':=by
 obtain ⟨hz,_,hat⟩:=hb;obtain ⟨b,o,rfl,_,hcell⟩:=hat hn;have hrun:=Lib.hid (Lib.run_indexByteSlice (P:=Tryz.prog) w b o n c zs hz hcell 0);have HR:Hid (Lib.indexByte (Lib.bytesOf zs) (0:Int).toNat.toUInt8=r):=Lib.hid hr;clear hcell hat hz hr;go_enter Tryz.func142,Tryz.ntmps142
 go_wp2;rw [run_callFunc_extern Tryz.func159 (by kernel_rfl) (by kernel_rfl) (by kernel_rfl) (e:=Extern.BytealgIndexByte.indexByte) (by kernel_rfl),hrun.out,HR.out];simp only [Result.andThen];rw [Oper.upon_value];go_wp2;go_ret;exact ⟨rfl,rfl⟩
theorem k2_slidx_any (s:ByteArray) (r:Int) (w:World) (hr:Lib.indexByte s.data.toList 0=r) :
 Calls Tryz.prog 154 #[.string s,.int .u8 0] w fun e w'=>e=.returned (.int .i64 r)∧w=w':=by
 have hrun:=Lib.hid (Lib.run_indexByteString (P:=Tryz.prog) s 0 w);have HR:Hid (Lib.indexByte s.data.toList (0:Int).toNat.toUInt8=r):=Lib.hid hr;clear hr;go_enter Tryz.func154,Tryz.ntmps154
 go_wp2;rw [run_callFunc_extern Tryz.func165 (by kernel_rfl) (by kernel_rfl) (by kernel_rfl) (e:=Extern.BytealgIndexByte.indexByte) (by kernel_rfl),hrun.out,HR.out];simp only [Result.andThen];rw [Oper.upon_value];go_wp2;go_ret;exact ⟨rfl,rfl⟩
theorem k2_sidx_any (s:ByteArray) (r:Int) (w:World) (hr:Lib.indexByte s.data.toList 0=r) :
 Calls Tryz.prog 121 #[.string s,.int .u8 0] w fun e w'=>e=.returned (.int .i64 r)∧w=w':=by
 have HR:=Lib.hid hr;clear hr;go_enter Tryz.func121,Tryz.ntmps121
 go_wp2_with (go_at_call 154;refine (k2_slidx_any _ _ _ HR.out).mono ?_;rintro e w' ⟨rfl,rfl⟩);go_ret;exact ⟨rfl,rfl⟩
def chk (zs:List Int):Int:=if zs.length=0∨zs.getD 0 0≠0∨zs.getD (zs.length-1) 0≠0 then 11 else 0
theorem check_any (B:Nat) (a:Option Addr) (len cap:Nat) (zs:List Int) (w:World) (hb:Bys w B a len zs) (hl:(len:Int)≤9223372036854775807) :
 Calls Tryz.prog 101 #[.slice a len cap] w fun e w'=>e=.returned (.int .i64 (chk zs))∧w=w':=by
 obtain ⟨hz,hbd,hat⟩:=hb;rcases Nat.eq_zero_or_pos len with h0 | h0
 ·subst h0;have hc:chk zs=11:=by unfold chk;rw [if_pos (.inl hz)]
  rw [hc];clear hz hbd hat hc;go_enter Tryz.func101,Tryz.ntmps101
  go_wp2;go_ret;exact ⟨rfl,rfl⟩
 ·obtain ⟨b,off,rfl,_,hcell⟩:=hat h0;have hn:decide (len=0)=false:=by simp;omega
  have hni:((len:Int)==0)=false:=by rw [beq_eq_false_iff_ne];omega
  have c0:=hcell 0 h0;have c1:=hcell (len-1) (by omega);rw [Nat.add_zero] at c0;unfold chk;rw [hz];have h1:1≤len:=h0;have h1i:1≤(len:Int):=by omega
  obtain ⟨x,hx⟩:∃x,x=zs.getD 0 0:=⟨_,rfl⟩
  obtain ⟨y,hy⟩:∃y,y=zs.getD (len-1) 0:=⟨_,rfl⟩
  rw [←hx] at c0⊢;rw [←hy] at c1⊢;clear hcell hat hz hbd hx hy;by_cases hx0:x=0
  ·subst hx0;by_cases hy0:y=0
   ·subst hy0;rw [if_neg (by omega)];go_enter Tryz.func101,Tryz.ntmps101
    go_wp2;go_ret;exact ⟨rfl,rfl⟩
   ·rw [if_pos (by omega)];go_enter Tryz.func101,Tryz.ntmps101
    go_wp2;go_ret;exact ⟨rfl,rfl⟩
  ·rw [if_pos (by omega)];clear c1;go_enter Tryz.func101,Tryz.ntmps101
   go_wp2;go_ret;exact ⟨rfl,rfl⟩
theorem at_range (a:Option Addr) (len cap:Nat) (p:Int) (w:World) (hl:(len:Int)≤9223372036854775807) (hp:(len:Int)≤p) :
 Calls Tryz.prog 102 #[.slice a len cap,.int .u64 p] w fun e w'=>e=.returned (.tuple #[.string .empty,.int .i64 10])∧w=w':=by
 go_enter Tryz.func102,Tryz.ntmps102
 go_wp2;go_ret2;exact ⟨rfl,rfl⟩
theorem at_form (B:Nat) (a:Option Addr) (len cap:Nat) (zs:List Int) (p:Nat) (w:World) (hb:Bys w B a len zs) (hcap:len≤cap) (hcm:(cap:Int)≤9223372036854775807) (hp:p<len) (hz:k2_NoZ (piece zs p (len-p))) :
 Calls Tryz.prog 102 #[.slice a len cap,.int .u64 p] w fun e w'=>e=.returned (.tuple #[.string .empty,.int .i64 11])∧w=w':=by
 obtain ⟨b,off,rfl,_,_⟩:=hb.2.2 (by omega);have HS:=Lib.hid (hb.sub (p:=p) (n:=len-p) (by omega));have HI:=Lib.hid (k2_idx_none HS.out.2.1 hz);have hpi:(p:Int)<(len:Int):=by omega
 clear hb hz;go_enter Tryz.func102,Tryz.ntmps102
 go_wp2_with (go_at_call 142;refine (k2_bidx_any _ _ _ _ _ _ _ HS.out (by omega) HI.out).mono ?_;rintro e w' ⟨rfl,rfl⟩);go_ret2;exact ⟨rfl,rfl⟩
def entB (e:Int×Int):List Int:=digs e.1 8++digs e.2 8
theorem entB_len (e:Int×Int):(entB e).length=16:=by simp [entB,digs_len]
theorem entB_bd (e:Int×Int):∀n∈entB e,0≤n∧n≤255:=by
 intro n hn;rcases List.mem_append.1 hn with h | h
 ·exact digs_bd _ _ n h
 ·exact digs_bd _ _ n h
def entsB (E:List (Int×Int)):List Int:=E.flatMap entB
theorem entsB_len:∀E:List (Int×Int),(entsB E).length=16*E.length
 | []=>rfl
 | e :: E=>by
   have:=entsB_len E;unfold entsB at this⊢;rw [List.flatMap_cons,List.length_append,entB_len,this,List.length_cons];omega
theorem entsB_bd (E:List (Int×Int)):∀n∈entsB E,0≤n∧n≤255:=by
 intro n hn;obtain ⟨e,_,he⟩:=List.mem_flatMap.1 hn;exact entB_bd e n he
theorem entsB_snoc (E:List (Int×Int)) (e:Int×Int):entsB (E++[e])=entsB E++entB e:=by
 unfold entsB;rw [List.flatMap_append];simp
theorem entsB_append (E F:List (Int×Int)):entsB (E++F)=entsB E++entsB F:=by
 unfold entsB;rw [List.flatMap_append]
def tagAt (zs:List Int) (k:Nat):Int:=num (piece zs (16*k) 8)
def valAt (zs:List Int) (k:Nat):Int:=num (piece zs (16*k+8) 8)
theorem tagAt_bd {zs:List Int} (hb:∀n∈zs,0≤n∧n≤255) {k:Nat} (h:16*k+16≤zs.length):0≤tagAt zs k∧tagAt zs k≤18446744073709551615:=by
 have:=num_piece_lt (p:=16*k) (k:=8) hb (by omega);unfold tagAt;omega
theorem valAt_bd {zs:List Int} (hb:∀n∈zs,0≤n∧n≤255) {k:Nat} (h:16*k+16≤zs.length):0≤valAt zs k∧valAt zs k≤18446744073709551615:=by
 have:=num_piece_lt (p:=16*k+8) (k:=8) hb (by omega);unfold valAt;omega
theorem k5_piece_mid' {A B C:List Int} {p n:Nat} (hp:A.length=p) (hn:B.length=n):piece (A++(B++C)) p n=B:=by
 subst hp;subst hn;unfold piece;rw [List.drop_left,List.take_left]
def EntOk (e:Int×Int):Prop:=(0≤e.1∧e.1≤18446744073709551615)∧0≤e.2∧e.2≤18446744073709551615
theorem at_mid (E F:List (Int×Int)) (e:Int×Int) (more:List Int) (he:EntOk e):tagAt (entsB (E++e :: F)++more) E.length=e.1∧valAt (entsB (E++e :: F)++more) E.length=e.2:=by
 have hl:=entsB_len E;have e1:entsB (E++e :: F)++more=entsB E++(digs e.1 8++(digs e.2 8++(entsB F++more))):=by
  rw [entsB_append];unfold entsB;rw [List.flatMap_cons];simp [entB]
 have e2:entsB (E++e :: F)++more=(entsB E++digs e.1 8)++(digs e.2 8++(entsB F++more)):=by
  rw [e1];simp
 constructor
 ·unfold tagAt;rw [e1,k5_piece_mid' (by omega) (digs_len _ _),num_digs he.1.1];have:=he.1.2;have:=he.1.1;omega
 ·unfold valAt;rw [e2,k5_piece_mid' (by rw [List.length_append,digs_len];omega) (digs_len _ _),num_digs he.2.1];have:=he.2.2;have:=he.2.1;omega
def tagsD:List Int:=[14,5,10,6,1610612749,7,8]
def idxD (t:Int):Option Nat:=
 if t=14 then some 0 else if t=5 then some 1 else if t=10 then some 2 else if t=6 then some 3 else if t=1610612749 then some 4 else if t=7 then some 5 else if t=8 then some 6 else none
theorem idxD_lt {t:Int} {i:Nat} (h:idxD t=some i):i<7∧tagsD.getD i 0=t:=by
 unfold idxD at h;split at h
 ·injection h with h;subst h;subst_vars;decide
 ·split at h
  ·injection h with h;subst h;subst_vars;decide
  ·split at h
   ·injection h with h;subst h;subst_vars;decide
   ·split at h
    ·injection h with h;subst h;subst_vars;decide
    ·split at h
     ·injection h with h;subst h;subst_vars;decide
     ·split at h
      ·injection h with h;subst h;subst_vars;decide
      ·split at h
       ·injection h with h;subst h;subst_vars;decide
       ·cases h
theorem idxD_tag {i:Nat} (h:i<7):idxD (tagsD.getD i 0)=some i:=by
 have:i=0∨i=1∨i=2∨i=3∨i=4∨i=5∨i=6:=by omega
 rcases this with rfl | rfl | rfl | rfl | rfl | rfl | rfl<;>rfl
theorem tagsD_pos {i:Nat} (h:i<7):tagsD.getD i 0≠0∧tagsD.getD i 0≠1∧0≤tagsD.getD i 0∧tagsD.getD i 0≤18446744073709551615:=by
 have:i=0∨i=1∨i=2∨i=3∨i=4∨i=5∨i=6:=by omega
 rcases this with rfl | rfl | rfl | rfl | rfl | rfl | rfl<;>decide
structure StD where
 nd:List Int
 v:List Int
 seen:List Bool
def stD0:StD:=⟨[],[0,0,0,0,0,0,0],[false,false,false,false,false,false,false]⟩
def wholeD (s:StD):Bool:=s.seen.getD 1 false && (s.seen.getD 2 false && (s.seen.getD 3 false==s.seen.getD 4 false && s.seen.getD 5 false==s.seen.getD 6 false))
def outD (zs:List Int):Nat→Nat→StD→Int×StD
 | 0,_,_=>(10,stD0)
 | f+1,k,s=>
   if zs.length<16*k+16 then (10,stD0)
   else if tagAt zs k=0 then (if wholeD s=true then (0,s) else (11,stD0))
   else if tagAt zs k=1 then outD zs f (k+1) ⟨s.nd++[valAt zs k],s.v,s.seen⟩
   else match idxD (tagAt zs k) with
    | none=>(11,stD0)
    | some i=>if s.seen.getD i false=true then (12,stD0) else outD zs f (k+1) ⟨s.nd,s.v.set i (valAt zs k),s.seen.set i true⟩
def getDy (zs:List Int):Int×StD:=outD zs (zs.length+1) 0 stD0
theorem out_short {zs:List Int} {k:Nat} {s:StD} (hk:16*k≤zs.length) (h:zs.length<16*k+16):outD zs (zs.length+1-k) k s=(10,stD0):=by
 obtain ⟨f,hf⟩:∃f,zs.length+1-k=f+1:=⟨zs.length-k,by omega⟩
 rw [hf,outD,if_pos h]
theorem out_end {zs:List Int} {k:Nat} {s:StD} (h:16*k+16≤zs.length) (ht:tagAt zs k=0):outD zs (zs.length+1-k) k s=if wholeD s=true then (0,s) else (11,stD0):=by
 obtain ⟨f,hf⟩:∃f,zs.length+1-k=f+1:=⟨zs.length-k,by omega⟩
 rw [hf,outD,if_neg (by omega),if_pos ht]
theorem out_need {zs:List Int} {k:Nat} {s:StD} (h:16*k+16≤zs.length) (ht:tagAt zs k=1):outD zs (zs.length+1-k) k s=outD zs (zs.length+1-(k+1)) (k+1) ⟨s.nd++[valAt zs k],s.v,s.seen⟩:=by
 obtain ⟨f,hf⟩:∃f,zs.length+1-k=f+1:=⟨zs.length-k,by omega⟩
 rw [hf,show zs.length+1-(k+1)=f by omega,outD,if_neg (by omega),if_neg (by omega),if_pos ht]
theorem out_form {zs:List Int} {k:Nat} {s:StD} (h:16*k+16≤zs.length) (h0:tagAt zs k≠0) (h1:tagAt zs k≠1) (hi:idxD (tagAt zs k)=none):outD zs (zs.length+1-k) k s=(11,stD0):=by
 obtain ⟨f,hf⟩:∃f,zs.length+1-k=f+1:=⟨zs.length-k,by omega⟩
 rw [hf,outD,if_neg (by omega),if_neg h0,if_neg h1,hi]
theorem out_over {zs:List Int} {k i:Nat} {s:StD} (h:16*k+16≤zs.length) (h0:tagAt zs k≠0) (h1:tagAt zs k≠1) (hi:idxD (tagAt zs k)=some i) (hs:s.seen.getD i false=true):outD zs (zs.length+1-k) k s=(12,stD0):=by
 obtain ⟨f,hf⟩:∃f,zs.length+1-k=f+1:=⟨zs.length-k,by omega⟩
 rw [hf,outD,if_neg (by omega),if_neg h0,if_neg h1,hi];simp only [hs,if_true]
theorem out_set {zs:List Int} {k i:Nat} {s:StD} (h:16*k+16≤zs.length) (h0:tagAt zs k≠0) (h1:tagAt zs k≠1) (hi:idxD (tagAt zs k)=some i) (hs:s.seen.getD i false=false) :
 outD zs (zs.length+1-k) k s=outD zs (zs.length+1-(k+1)) (k+1) ⟨s.nd,s.v.set i (valAt zs k),s.seen.set i true⟩:=by
 obtain ⟨f,hf⟩:∃f,zs.length+1-k=f+1:=⟨zs.length-k,by omega⟩
 rw [hf,show zs.length+1-(k+1)=f by omega,outD,if_neg (by omega),if_neg h0,if_neg h1,hi];simp only [hs,Bool.false_eq_true,if_false]
structure StOk (s:StD):Prop where
 v:s.v.length=7
 seen:s.seen.length=7
theorem stD0_ok:StOk stD0:=⟨rfl,rfl⟩
theorem StOk.need {s:StD} (h:StOk s) (x:Int):StOk ⟨s.nd++[x],s.v,s.seen⟩:=⟨h.v,h.seen⟩
theorem StOk.set {s:StD} (h:StOk s) (i:Nat) (x:Int):StOk ⟨s.nd,s.v.set i x,s.seen.set i true⟩:=⟨by simp [h.v],by simp [h.seen]⟩
def keepD (V:List Int) (i:Nat):Bool:=!(decide (i=0∧V.getD 0 0=0) || (decide ((i=3∨i=4)∧V.getD 4 0=0) || decide (5≤i∧V.getD 6 0=0)))
def sevenD (V:List Int) (k:Nat):List (Int×Int):=((List.range k).filter (keepD V)).map fun i=>(tagsD.getD i 0,V.getD i 0)
theorem sevenD_succ (V:List Int) (k:Nat):sevenD V (k+1)=sevenD V k++(if keepD V k=true then [(tagsD.getD k 0,V.getD k 0)] else []):=by
 unfold sevenD;rw [List.range_succ,List.filter_append,List.map_append]
 congr 1
 by_cases h:keepD V k=true
 ·simp [h]
 ·simp [h]
def putEs (N V:List Int):List (Int×Int):=N.map (fun x=>(1,x))++(sevenD V 7++[(0,0)])
def putBy (N V:List Int):List Int:=entsB (putEs N V)
theorem sevenD_more (V:List Int) (k:Nat):∀j,k≤j→∃R,sevenD V j=sevenD V k++R
 | 0,h=>by obtain rfl:k=0:=by omega
           exact ⟨[],by simp⟩
 | j+1,h=>by
   by_cases e:k=j+1
   ·subst e;exact ⟨[],by simp⟩
   ·obtain ⟨R,hR⟩:=sevenD_more V k j (by omega);exact ⟨R++(if keepD V j=true then [(tagsD.getD j 0,V.getD j 0)] else []),by rw [sevenD_succ,hR,List.append_assoc]⟩
def vK (V:List Int) (k:Nat):List Int:=(List.range 7).map fun i=>if decide (i<k) && keepD V i then V.getD i 0 else 0
def sK (V:List Int) (k:Nat):List Bool:=(List.range 7).map fun i=>decide (i<k) && keepD V i
theorem vK_getD {V:List Int} {k i:Nat} (h:i<7):(vK V k).getD i 0=if (decide (i<k) && keepD V i)=true then V.getD i 0 else 0:=by
 rw [List.getD_eq_getElem?_getD,vK,List.getElem?_map,List.getElem?_range h];rfl
theorem sK_getD {V:List Int} {k i:Nat} (h:i<7):(sK V k).getD i false=(decide (i<k) && keepD V i):=by
 rw [List.getD_eq_getElem?_getD,sK,List.getElem?_map,List.getElem?_range h];rfl
theorem vK_succ {V:List Int} {k:Nat} (h:k<7):vK V (k+1)=if keepD V k=true then (vK V k).set k (V.getD k 0) else vK V k:=by
 have hl:∀j,(vK V j).length=7:=fun j=>by simp [vK]
 have hlr:(if keepD V k=true then (vK V k).set k (V.getD k 0) else vK V k).length=7:=by split<;>simp [hl]
 apply List.ext_getElem (by rw [hl,hlr])
 intro i h1 h2;have hi:i<7:=by rw [hl] at h1;exact h1
 have e1:=vK_getD (V:=V) (k:=k+1) hi;have e2:=vK_getD (V:=V) (k:=k) hi;rw [List.getD_eq_getElem?_getD,List.getElem?_eq_getElem (by rw [hl];exact hi)] at e1 e2;simp only [Option.getD_some] at e1 e2;rw [e1];by_cases hk:keepD V k=true
 ·simp only [hk,if_true];rw [List.getElem_set];by_cases e:k=i
  ·subst e;simp [hk]
  ·rw [if_neg e,e2];have:decide (i<k+1)=decide (i<k):=by
    by_cases h:i<k
    ·simp [h];omega
    ·simp [h];omega
   rw [this]
 ·simp only [hk,if_false,Bool.false_eq_true];rw [e2];by_cases e:k=i
  ·subst e;simp [hk]
  ·have:decide (i<k+1)=decide (i<k):=by
    by_cases h:i<k
    ·simp [h];omega
    ·simp [h];omega
   rw [this]
theorem sK_succ {V:List Int} {k:Nat} (h:k<7):sK V (k+1)=if keepD V k=true then (sK V k).set k true else sK V k:=by
 have hl:∀j,(sK V j).length=7:=fun j=>by simp [sK]
 have hlr:(if keepD V k=true then (sK V k).set k true else sK V k).length=7:=by split<;>simp [hl]
 apply List.ext_getElem (by rw [hl,hlr])
 intro i h1 h2;have hi:i<7:=by rw [hl] at h1;exact h1
 have e1:=sK_getD (V:=V) (k:=k+1) hi;have e2:=sK_getD (V:=V) (k:=k) hi;rw [List.getD_eq_getElem?_getD,List.getElem?_eq_getElem (by rw [hl];exact hi)] at e1 e2;simp only [Option.getD_some] at e1 e2;rw [e1];by_cases hk:keepD V k=true
 ·simp only [hk,if_true];rw [List.getElem_set];by_cases e:k=i
  ·subst e;simp [hk]
  ·rw [if_neg e,e2];have:decide (i<k+1)=decide (i<k):=by
    by_cases h:i<k
    ·simp [h];omega
    ·simp [h];omega
   rw [this]
 ·simp only [hk,if_false,Bool.false_eq_true];rw [e2];by_cases e:k=i
  ·subst e;simp [hk]
  ·have:decide (i<k+1)=decide (i<k):=by
    by_cases h:i<k
    ·simp [h];omega
    ·simp [h];omega
   rw [this]
theorem entsB_room (E:List (Int×Int)) (more:List Int) {k:Nat} (h:k<E.length):16*k+16≤(entsB E++more).length:=by
 rw [List.length_append,entsB_len];omega
theorem out_needs {more:List Int} {s:StD}:∀(N:List Int) (E F:List (Int×Int)) (nd:List Int),(∀x∈N,0≤x∧x≤18446744073709551615)→
 outD (entsB (E++(N.map (fun x=>(1,x))++F))++more) ((entsB (E++(N.map (fun x=>(1,x))++F))++more).length+1-E.length) E.length ⟨nd,s.v,s.seen⟩ =
  outD (entsB (E++(N.map (fun x=>(1,x))++F))++more) ((entsB (E++(N.map (fun x=>(1,x))++F))++more).length+1-(E.length+N.length)) (E.length+N.length) ⟨nd++N,s.v,s.seen⟩
 | [],E,F,nd,_=>by simp
 | x :: N,E,F,nd,h=>by
   have hx:=h x (by simp);have hm:=at_mid E (N.map (fun x=>(1,x))++F) (1,x) more ⟨⟨by simp,by simp⟩,hx⟩;have hr:=entsB_room (E++(1,x) :: (N.map (fun x=>(1,x))++F)) more (k:=E.length) (by simp);have e1:E++((x :: N).map (fun x=>((1:Int),x))++F)=E++(1,x) :: (N.map (fun x=>(1,x))++F):=by simp
   have e2:E++(1,x) :: (N.map (fun x=>((1:Int),x))++F)=(E++[(1,x)])++(N.map (fun x=>(1,x))++F):=by simp
   rw [e1,out_need hr hm.1,hm.2,e2];have ih:=out_needs (more:=more) (s:=s) N (E++[(1,x)]) F (nd++[x]) (fun y hy=>h y (by simp [hy]));have e3:(E++[((1:Int),x)]).length=E.length+1:=by simp
   rw [e3] at ih;simp only
   rw [ih];have e4:E.length+1+N.length=E.length+(x :: N).length:=by simp;omega
   have e5:nd++[x]++N=nd++(x :: N):=by simp
   rw [e4,e5]
theorem out_sevens {more N V:List Int} (hV:∀i,0≤V.getD i 0∧V.getD i 0≤18446744073709551615):∀(k:Nat),k≤7→
 outD (putBy N V++more) ((putBy N V++more).length+1-N.length) N.length ⟨N,vK V 0,sK V 0⟩ =
  outD (putBy N V++more) ((putBy N V++more).length+1-(N.length+(sevenD V k).length)) (N.length+(sevenD V k).length) ⟨N,vK V k,sK V k⟩
 | 0,_=>rfl
 | k+1,hk=>by
   rw [out_sevens hV k (by omega),vK_succ (by omega),sK_succ (by omega)];by_cases h:keepD V k=true
   ·obtain ⟨R,hR⟩:=sevenD_more V (k+1) 7 (by omega);have hs:=sevenD_succ V k;rw [if_pos h] at hs;have e1:putBy N V=entsB ((N.map (fun x=>((1:Int),x))++sevenD V k)++(tagsD.getD k 0,V.getD k 0) :: (R++[(0,0)])):=by
     unfold putBy putEs;rw [hR,hs];simp
    have hlen:(N.map (fun x=>((1:Int),x))++sevenD V k).length=N.length+(sevenD V k).length:=by simp
    have hp:=tagsD_pos (i:=k) (by omega);have hm:=at_mid (N.map (fun x=>((1:Int),x))++sevenD V k) (R++[(0,0)]) (tagsD.getD k 0,V.getD k 0) more ⟨hp.2.2,hV k⟩;have hr:=entsB_room ((N.map (fun x=>((1:Int),x))++sevenD V k)++(tagsD.getD k 0,V.getD k 0) :: (R++[(0,0)])) more (k:=N.length+(sevenD V k).length) (by simp);rw [←e1,hlen] at hm;rw [←e1] at hr;rw [out_set hr (by rw [hm.1];exact hp.1) (by rw [hm.1];exact hp.2.1) (by rw [hm.1];exact idxD_tag (by omega)) (by simp only;rw [sK_getD (by omega)];simp),hm.2,if_pos h,if_pos h,hs];simp only [List.length_append,List.length_cons,List.length_nil,Nat.zero_add,Nat.add_assoc]
   ·have hs:=sevenD_succ V k;rw [if_neg h,List.append_nil] at hs;rw [if_neg h,if_neg h,hs]
theorem dyn_back {more N V:List Int} (hN:∀x∈N,0≤x∧x≤18446744073709551615) (hV:∀i,0≤V.getD i 0∧V.getD i 0≤18446744073709551615) :
 getDy (putBy N V++more)=(0,⟨N,vK V 7,sK V 7⟩):=by
 have h1:=out_needs (more:=more) (s:=stD0) N [] (sevenD V 7++[(0,0)]) [] hN;simp only [List.nil_append,List.length_nil,Nat.zero_add,Nat.sub_zero] at h1;have h2:=out_sevens (more:=more) (N:=N) hV 7 (Nat.le_refl _);have hv0:vK V 0=stD0.v:=rfl;have hs0:sK V 0=stD0.seen:=rfl;have e1:putBy N V=entsB ((N.map (fun x=>((1:Int),x))++sevenD V 7)++(0,0) :: []):=by
  unfold putBy putEs;simp
 have hlen:(N.map (fun x=>((1:Int),x))++sevenD V 7).length=N.length+(sevenD V 7).length:=by simp
 have hm:=at_mid (N.map (fun x=>((1:Int),x))++sevenD V 7) [] (0,0) more ⟨by decide,by decide⟩;have hr:=entsB_room ((N.map (fun x=>((1:Int),x))++sevenD V 7)++(0,0) :: []) more (k:=N.length+(sevenD V 7).length) (by simp);rw [←e1,hlen] at hm;rw [←e1] at hr;unfold getDy;show outD (putBy N V++more) ((putBy N V++more).length+1) 0 ⟨[],stD0.v,stD0.seen⟩=_;unfold putBy putEs;rw [h1];have e2:entsB (N.map (fun x=>((1:Int),x))++(sevenD V 7++[(0,0)]))=putBy N V:=rfl;rw [e2,←hv0,←hs0,h2,out_end hr hm.1];have hw:wholeD ⟨N,vK V 7,sK V 7⟩=true:=by
  unfold wholeD;simp only [sK_getD (show 1<7 by decide),sK_getD (show 2<7 by decide),sK_getD (show 3<7 by decide),sK_getD (show 4<7 by decide),sK_getD (show 5<7 by decide),sK_getD (show 6<7 by decide)];simp [keepD]
 rw [if_pos hw]
end Go.Proofs.YtclgbdfkdbbinaaGreat
