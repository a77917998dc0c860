/-
  What is proved here: words and contracts, a part of those that the statement rests on (P4).
  Conditions: none but that the arguments are values of their types.
-/
import Derived.Test.YtclgbdfkdbbinaaGreatP1
import Derived.Test.YtclgbdfkdbbinaaGreatP2
import Derived.Test.YtclgbdfkdbbinaaGreatP3
set_option linter.unusedVariables false
set_option linter.unusedSimpArgs false
set_option maxRecDepth 100000
set_option maxHeartbeats 12800000
namespace Go.Proofs.YtclgbdfkdbbinaaGreat
open Go.RowKit
def hd0:List Int:=[127,69,76,70,2,1,1,0,0,0,0,0,0,0,0,0]
def enc (k e s c:Int):List Int:=
 hd0++(digs k 2++(digs 19823 2++(digs 1 4++(digs e 8++(digs s 8++(digs 0 8++(digs 0 4++(digs 64 2++(digs 56 2++(digs c 2++(digs 0 2++(digs 0 2++digs 0 2))))))))))))
theorem enc_len (k e s c:Int):(enc k e s c).length=64:=by
 simp only [enc,List.length_append,digs_len];rfl
theorem enc_bd (k e s c:Int):∀n∈enc k e s c,0≤n∧n≤255:=by
 intro n hn;simp only [enc,List.mem_append] at hn;rcases hn with h | h | h | h | h | h | h | h | h | h | h | h | h | h
 ·revert n;decide
 all_goals exact digs_bd _ _ n h
def validB (k c:Int):Bool:=decide (2≤k) && (decide (k≤4) && (decide (0≤c) && decide (c≤64)))
theorem validB_iff {k c:Int}:validB k c=true↔2≤k∧k≤4∧0≤c∧c≤64:=by simp [validB]
def kOf (zs:List Int):Int:=num (piece zs 16 2)
def eOf (zs:List Int):Int:=num (piece zs 24 8)
def sOf (zs:List Int):Int:=num (piece zs 32 8)
def cOf (zs:List Int):Int:=num (piece zs 56 2)
def isHead (zs:List Int):Bool:=validB (kOf zs) (cOf zs) && decide (enc (kOf zs) (eOf zs) (sOf zs) (cOf zs)=piece zs 0 64)
theorem kOf_bd {zs:List Int} (hb:∀n∈zs,0≤n∧n≤255) (h:64≤zs.length):0≤kOf zs∧kOf zs≤65535:=by
 have:=num_piece_lt (p:=16) (k:=2) hb (by omega);unfold kOf;omega
theorem cOf_bd {zs:List Int} (hb:∀n∈zs,0≤n∧n≤255) (h:64≤zs.length):0≤cOf zs∧cOf zs≤65535:=by
 have:=num_piece_lt (p:=56) (k:=2) hb (by omega);unfold cOf;omega
theorem eOf_bd {zs:List Int} (hb:∀n∈zs,0≤n∧n≤255) (h:64≤zs.length):0≤eOf zs∧eOf zs≤18446744073709551615:=by
 have:=num_piece_lt (p:=24) (k:=8) hb (by omega);unfold eOf;omega
theorem sOf_bd {zs:List Int} (hb:∀n∈zs,0≤n∧n≤255) (h:64≤zs.length):0≤sOf zs∧sOf zs≤18446744073709551615:=by
 have:=num_piece_lt (p:=32) (k:=8) hb (by omega);unfold sOf;omega
def headV (k e s c:Int):Value:=.agg #[.int .i64 k,.int .u64 e,.int .u64 s,.int .i64 c]
def k3_getV (zs:List Int):Value:=
 if zs.length<64 then .tuple #[headV 0 0 0 0,.int .i64 10]
 else if isHead zs then .tuple #[headV (kOf zs) (eOf zs) (sOf zs) (cOf zs),.int .i64 0]
 else .tuple #[headV 0 0 0 0,.int .i64 11]
def fz:List Int→Option Nat
 | []=>none
 | c :: r=>if c=0 then some 0 else (fz r).map (·+1)
theorem fz_some:∀{zs:List Int} {k:Nat},fz zs=some k→k2_FirstZ zs k
 | [],k,h=>by simp [fz] at h
 | c :: r,k,h=>by
   unfold fz at h;by_cases e:c=0
   ·rw [if_pos e] at h;injection h with h;subst h;exact ⟨by simp,by rw [e];rfl,fun i hi=>absurd hi (by omega)⟩
   ·rw [if_neg e] at h;cases hr:fz r with
    | none=>rw [hr] at h;simp at h
    | some j=>
      rw [hr] at h;simp only [Option.map_some,Option.some.injEq] at h;subst h;obtain ⟨h1,h2,h3⟩:=fz_some hr;refine ⟨by simp;omega,h2,fun i hi=>?_⟩;cases i with
      | zero=>exact e
      | succ i=>exact h3 i (by omega)
theorem fz_none:∀{zs:List Int},fz zs=none→k2_NoZ zs
 | [],_=>fun i hi=>by simp at hi
 | c :: r,h=>by
   unfold fz at h;by_cases e:c=0
   ·rw [if_pos e] at h;cases h
   ·rw [if_neg e] at h;cases hr:fz r with
    | some j=>rw [hr] at h;simp at h
    | none=>
      have ih:=fz_none hr;intro i hi;cases i with
      | zero=>exact e
      | succ i=>exact ih i (by simpa using hi)
def atN (t:List Int) (p:Int):Int×ByteArray:=
 if (t.length:Int)≤p then (10,.empty)
 else match fz (piece t p.toNat (t.length-p.toNat)) with
  | some k=>(0,strOfNums (piece t p.toNat k))
  | none=>(11,.empty)
def needI (t:List Int):List Int→Int×List ByteArray
 | []=>(0,[])
 | p :: ps=>if (atN t p).1≠0 then ((atN t p).1,[]) else if (atN t p).2=.empty then (11,[]) else ((needI t ps).1,(atN t p).2 :: (needI t ps).2)
def namesI (t:List Int):List Sy→Int×List ByteArray
 | []=>(0,[])
 | s :: r=>if (atN t s.na).1≠0 then ((atN t s.na).1,[]) else ((namesI t r).1,(atN t s.na).2 :: (namesI t r).2)
def placeI (L:List Sg) (addr size:Int):Int×Int:=
 if size=0 then (40,0) else match L.find? (placeB addr size) with
  | none=>(40,0)
  | some s=>(0,placedS s addr)
theorem placeV_eq (L:List Sg) (addr size:Int):placeV L addr size=.tuple #[.int .u64 (placeI L addr size).2,.int .i64 (placeI L addr size).1]:=by
 unfold placeV placeI;split
 ·rfl
 ·cases L.find? (placeB addr size)<;>rfl
def cutI (zs:List Int) (p s:Int):Int×List Int:=if (zs.length:Int)<p+s then (10,[]) else (0,piece zs p.toNat s.toNat)
def bytesI (L:List Sg) (zs:List Int) (addr size:Int):Int×List Int:=
 if (placeI L addr size).1≠0 then ((placeI L addr size).1,[]) else cutI zs (placeI L addr size).2 size
structure Na where
 so:ByteArray
 nd:List ByteArray
 nm:List ByteArray
 sy:List Sy
 rl:List Rl
def na0:Na:=⟨.empty,[],[],[],[]⟩
def relaI (L:List Sg) (zs V:List Int) (so:ByteArray) (nd nm:List ByteArray) (sy:List Sy):Int×Na:=
 if 65536<V.getD 6 0 then (13,na0)
 else if V.getD 6 0≤0 then (0,⟨so,nd,nm,sy,[]⟩)
 else if (bytesI L zs (V.getD 5 0) (V.getD 6 0)).1≠0 then ((bytesI L zs (V.getD 5 0) (V.getD 6 0)).1,na0)
 else if (tabL (bytesI L zs (V.getD 5 0) (V.getD 6 0)).2).1≠0 then ((tabL (bytesI L zs (V.getD 5 0) (V.getD 6 0)).2).1,na0)
 else (checkL (tabL (bytesI L zs (V.getD 5 0) (V.getD 6 0)).2).2 sy.length,⟨so,nd,nm,sy,(tabL (bytesI L zs (V.getD 5 0) (V.getD 6 0)).2).2⟩)
def symsI (L:List Sg) (zs V t:List Int) (so:ByteArray) (nd:List ByteArray):Int×Na:=
 if 1024<V.getD 4 0 then (13,na0)
 else if V.getD 4 0≤0 then relaI L zs V so nd [] []
 else if (bytesI L zs (V.getD 3 0) (24*V.getD 4 0)).1≠0 then ((bytesI L zs (V.getD 3 0) (24*V.getD 4 0)).1,na0)
 else if checkY (tabY (bytesI L zs (V.getD 3 0) (24*V.getD 4 0)).2).2≠0 then (11,na0)
 else if (namesI t (tabY (bytesI L zs (V.getD 3 0) (24*V.getD 4 0)).2).2).1≠0 then ((namesI t (tabY (bytesI L zs (V.getD 3 0) (24*V.getD 4 0)).2).2).1,na0)
 else relaI L zs V so nd (namesI t (tabY (bytesI L zs (V.getD 3 0) (24*V.getD 4 0)).2).2).2 (tabY (bytesI L zs (V.getD 3 0) (24*V.getD 4 0)).2).2
def needsI (L:List Sg) (zs V N t:List Int) (so:ByteArray):Int×Na:=
 if (needI t N).1≠0 then ((needI t N).1,na0) else symsI L zs V t so (needI t N).2
def sonI (L:List Sg) (zs V N t:List Int):Int×Na:=
 if V.getD 0 0=0 then needsI L zs V N t .empty
 else if (atN t (V.getD 0 0)).1≠0 then ((atN t (V.getD 0 0)).1,na0) else needsI L zs V N t (atN t (V.getD 0 0)).2
def entsI (L:List Sg) (zs V N:List Int):Int×Na:=
 if (bytesI L zs (V.getD 1 0) (V.getD 2 0)).1≠0 then ((bytesI L zs (V.getD 1 0) (V.getD 2 0)).1,na0)
 else if chk (bytesI L zs (V.getD 1 0) (V.getD 2 0)).2≠0 then (11,na0)
 else sonI L zs V N (bytesI L zs (V.getD 1 0) (V.getD 2 0)).2
def namedI (L:List Sg) (zs:List Int) (s:Sg):Int×Na:=
 if (getDy (cutI zs s.ot s.fi).2).1≠0 then ((getDy (cutI zs s.ot s.fi).2).1,na0)
 else entsI L zs (getDy (cutI zs s.ot s.fi).2).2.v (getDy (cutI zs s.ot s.fi).2).2.nd
def inI (r:Rl) (s:Sg):Bool:=decide (s.ty=1∧s.va≤r.of∧r.of<IntKind.u64.wrap (s.va+s.me)∧8≤IntKind.u64.wrap (IntKind.u64.wrap (s.va+s.me)-r.of))
def heldR (L:List Sg) (r:Rl):Bool:=decide (r.ty=0) || L.any (inI r)
def symE (t:Option Sg) (s:Sy):Int:=
 if s.se=0 then 0
 else if s.inf % 16=6 then (match t with
  | none=>11
  | some g=>if g.me<s.va then 11 else 0)
 else if 4294967296<s.va then 13 else 0
def symsE (t:Option Sg):List Sy→Int
 | []=>0
 | s :: r=>if symE t s≠0 then symE t s else symsE t r
def heldI (L:List Sg) (sy:List Sy) (rl:List Rl):Int:=if rl.any (fun r=>!heldR L r) then 40 else symsE (L.find? (kindB 7)) sy
structure Im where
 k:Int
 e:Int
 s:Int
 c:Int
 sg:List Sg
 so:ByteArray
 nd:List ByteArray
 nm:List ByteArray
 sy:List Sy
 rl:List Rl
 zs:List Int
def im0:Im:=⟨0,0,0,0,[],.empty,[],[],[],[],[]⟩
def imaI (zs:List Int) (k e s c:Int) (L:List Sg):Int×Im:=
 if (match L.find? (kindB 2) with
     | none=>((0,na0):Int×Na)
     | some d=>namedI L zs d).1≠0 then ((match L.find? (kindB 2) with
     | none=>((0,na0):Int×Na)
     | some d=>namedI L zs d).1,im0)
 else
  let x:=(match L.find? (kindB 2) with
   | none=>((0,na0):Int×Na)
   | some d=>namedI L zs d).2
  if heldI L x.sy x.rl≠0 then (heldI L x.sy x.rl,im0) else (0,⟨k,e,s,c,L,x.so,x.nd,x.nm,x.sy,x.rl,zs⟩)
def parseI (zs:List Int):Int×Im:=
 if 65536<zs.length then (13,im0)
 else if zs.length<64 then (10,im0)
 else if isHead zs=false then (11,im0)
 else if kOf zs=4 then (11,im0)
 else if (k4_tabR zs (sOf zs) (cOf zs)).1≠0 then ((k4_tabR zs (sOf zs) (cOf zs)).1,im0)
 else if checkS (k4_tabR zs (sOf zs) (cOf zs)).2 zs.length≠0 then (checkS (k4_tabR zs (sOf zs) (cOf zs)).2 zs.length,im0)
 else if (k4_tabR zs (sOf zs) (cOf zs)).2.find? (kindB 1)=none then (11,im0)
 else imaI zs (kOf zs) (eOf zs) (sOf zs) (cOf zs) (k4_tabR zs (sOf zs) (cOf zs)).2
theorem at_ok (B:Nat) (a:Option Addr) (len cap:Nat) (zs:List Int) (p k:Nat) (w:World) (hb:Bys w B a len zs) (hcap:len≤cap) (hcm:(cap:Int)≤9223372036854775807) (hp:p<len) (hz:k2_FirstZ (piece zs p (len-p)) k) :
 Calls Tryz.prog 102 #[.slice a len cap,.int .u64 p] w fun e w'=>e=.returned (.tuple #[.string (strOfNums (piece zs p k)),.int .i64 0])∧w=w':=by
 obtain ⟨b,off,rfl,_,_⟩:=hb.2.2 (by omega);have HS:=Lib.hid (hb.sub (p:=p) (n:=len-p) (by omega));have HI:=Lib.hid (k2_idx_some HS.out.2.1 hz);have hk:k<len-p:=by have:=hz.1;rw [HS.out.1] at this;exact this
 have hpi:(p:Int)<(len:Int):=by omega
 have hkc:k≤cap-p:=by omega
 have hconv:=(hb.sub (p:=p) (n:=k) (by omega)).conv (cap-p);clear hb hz;go_enter Tryz.func102,Tryz.ntmps102
 go_wp2_with (go_at_call 142;refine (k2_bidx_any _ _ _ _ _ _ _ HS.out (by omega) HI.out).mono ?_;rintro e w' ⟨rfl,rfl⟩);go_ret2;exact ⟨rfl,rfl⟩
theorem rat_range (a:Option Addr) (len cap:Nat) (p:Int) (w:World) (hl:(len:Int)≤9223372036854775807) (hp:(len:Int)≤p) :
 Calls Tryz.prog 116 #[.slice a len cap,.int .u64 p] w fun e w'=>e=.returned (.tuple #[.string .empty,.int .i64 10])∧w=w':=by
 go_enter Tryz.func116,Tryz.ntmps116
 go_wp2;go_ret2;exact ⟨rfl,rfl⟩
theorem rat_form (B:Nat) (a:Option Addr) (len cap:Nat) (zs:List Int) (p:Nat) (w:World) (hb:Bys w B a len zs) (hcap:len≤cap) (hcm:(cap:Int)≤9223372036854775807) (hp:p<len) (hz:k2_NoZ (piece zs p (len-p))) :
 Calls Tryz.prog 116 #[.slice a len cap,.int .u64 p] w fun e w'=>e=.returned (.tuple #[.string .empty,.int .i64 11])∧w=w':=by
 obtain ⟨b,off,rfl,_,hcell⟩:=hb.2.2 (by omega);have HZ:Hid (∀i,p+i<len→zs.getD (p+i) 0≠0):=Lib.hid (fun i hi=>by
  have:=hz i (by rw [piece_len (by have:=hb.1;omega)];omega)
  rwa [piece_getD (by omega)] at this)
 have HC:=Lib.hid hcell;have hpi:(p:Int)<(len:Int):=by omega
 clear hb hz hcell;go_enter Tryz.func116,Tryz.ntmps116
 go_wp2;go_loop [6] (fun i=>∃j:Nat,p+j≤len∧i=.int .i64 ((p+j:Nat):Int)) (fun i=>len-(intOf i).toNat)
 case atStart=>exact ⟨0,by omega,rfl⟩
 case round=>
  obtain ⟨j,hj,rfl⟩:=hrel;obtain ⟨i,hi⟩:∃i,i=p+j:=⟨_,rfl⟩
  rw [←hi] at hj⊢;by_cases hlt:i<len
  ·have hc:=HC.out i hlt;have hne:=HZ.out j (by omega);rw [←hi] at hne;obtain ⟨y,hy⟩:∃y,y=zs.getD i 0:=⟨_,rfl⟩
   rw [←hy] at hc hne;have HIJ:=Lib.hid hi;clear hi hy;go_wp2;go_round
   case rel=>exact ⟨j+1,by have:=HIJ.out;omega,by rw [HIJ.out];go_num⟩
   case measure=>simp [intOf];omega
  ·clear hi;go_wp2;go_ret2;exact ⟨rfl,rfl⟩
theorem k2_rat_ok (B:Nat) (a:Option Addr) (len cap:Nat) (zs:List Int) (p k:Nat) (w:World) (hb:Bys w B a len zs) (hcap:len≤cap) (hcm:(cap:Int)≤9223372036854775807) (hp:p<len) (hz:k2_FirstZ (piece zs p (len-p)) k) :
 Calls Tryz.prog 116 #[.slice a len cap,.int .u64 p] w fun e w'=>e=.returned (.tuple #[.string (strOfNums (piece zs p k)),.int .i64 0])∧w=w':=by
 obtain ⟨b,off,rfl,_,hcell⟩:=hb.2.2 (by omega);have hk:p+k<len:=by have:=hz.1;rw [piece_len (by have:=hb.1;omega)] at this;omega
 have HZ:Hid (∀i,i<k→zs.getD (p+i) 0≠0):=Lib.hid (fun i hi=>by
  have:=hz.2.2 i hi
  rwa [piece_getD (by omega)] at this)
 have HK:Hid (zs.getD (p+k) 0=0):=Lib.hid (by
  have:=hz.2.1
  rwa [piece_getD (by omega)] at this)
 have HC:=Lib.hid hcell;have HCONV:=Lib.hid ((hb.sub (p:=p) (n:=k) (by omega)).conv (cap-p));have hpi:(p:Int)<(len:Int):=by omega
 clear hb hz hcell;go_enter Tryz.func116,Tryz.ntmps116
 go_wp2;go_loop [6] (fun i=>∃j:Nat,j≤k∧i=.int .i64 ((p+j:Nat):Int)) (fun i=>len-(intOf i).toNat)
 case atStart=>exact ⟨0,by omega,rfl⟩
 case round=>
  obtain ⟨j,hj,rfl⟩:=hrel;obtain ⟨i,hi⟩:∃i,i=p+j:=⟨_,rfl⟩
  rw [←hi];by_cases hlt:j<k
  ·have hc:=HC.out i (by omega);have hne:=HZ.out j (by omega);rw [←hi] at hne;obtain ⟨y,hy⟩:∃y,y=zs.getD i 0:=⟨_,rfl⟩
   rw [←hy] at hc hne;have hil:i<len:=by omega
   have HIJ:=Lib.hid hi;clear hi hy;go_wp2;go_round
   case rel=>exact ⟨j+1,by omega,by rw [HIJ.out];go_num⟩
   case measure=>simp [intOf];omega
  ·obtain rfl:j=k:=by omega
   have hc:=HC.out i (by omega);rw [show zs.getD i 0=0 from hi▸HK.out] at hc;have hil:i<len:=by omega
   have hpi2:p≤i:=by omega
   have hconv:=HCONV.out;rw [show j=i-p from by omega] at hconv;have HIJ:=Lib.hid (show j=i-p from by omega);clear hi;go_wp2;go_ret2;exact ⟨congrArg (fun q=>Ending.returned (.tuple #[.string (strOfNums (piece zs p q)),.int .i64 0])) HIJ.out.symm,rfl⟩
structure Sh where
 a:Option Addr
 n:Nat
 c:Nat
def Sh.zero:Sh:=⟨none,0,0⟩
structure Sh.Ok (h:Sh):Prop where
 le:h.n≤h.c
 max:(h.c:Int)≤9223372036854775807
theorem Sh.zero_ok:Sh.zero.Ok:=⟨Nat.le_refl _,by decide⟩
structure Iv where
 k:Int
 e:Int
 s:Int
 c:Int
 sg:Sh
 so:ByteArray
 nd:Sh
 nm:Sh
 sy:Sh
 rl:Sh
 zs:Sh
def Iv.cells (x:Iv):Array Value:=#[.int .i64 x.k,.int .u64 x.e,.int .u64 x.s,.int .i64 x.c,.slice x.sg.a x.sg.n x.sg.c,.string x.so,.slice x.nd.a x.nd.n x.nd.c,.slice x.nm.a x.nm.n x.nm.c,.slice x.sy.a x.sy.n x.sy.c,.slice x.rl.a x.rl.n x.rl.c,.slice x.zs.a x.zs.n x.zs.c]
def Iv.val (x:Iv):Value:=.agg #[.int .i64 x.k,.int .u64 x.e,.int .u64 x.s,.int .i64 x.c,.slice x.sg.a x.sg.n x.sg.c,.string x.so,.slice x.nd.a x.nd.n x.nd.c,.slice x.nm.a x.nm.n x.nm.c,.slice x.sy.a x.sy.n x.sy.c,.slice x.rl.a x.rl.n x.rl.c,.slice x.zs.a x.zs.n x.zs.c]
def iv0:Iv:=⟨0,0,0,0,Sh.zero,.empty,Sh.zero,Sh.zero,Sh.zero,Sh.zero,Sh.zero⟩
structure Iv.Is (w:World) (B:Nat) (x:Iv) (m:Im):Prop where
 k:x.k=m.k
 e:x.e=m.e
 s:x.s=m.s
 c:x.c=m.c
 so:x.so=m.so
 sg:Sgs w B x.sg.a x.sg.n m.sg
 nd:Strs w B x.nd.a x.nd.n m.nd
 nm:Strs w B x.nm.a x.nm.n m.nm
 sy:Sy.Sl w B x.sy.a x.sy.n m.sy
 rl:Rl.Sl w B x.rl.a x.rl.n m.rl
 zs:Bys w B x.zs.a x.zs.n m.zs
 osg:x.sg.Ok
 ond:x.nd.Ok
 onm:x.nm.Ok
 osy:x.sy.Ok
 orl:x.rl.Ok
 ozs:x.zs.Ok
theorem Iv.Is.below {w w':World} {B:Nat} {x:Iv} {m:Im} (h:x.Is w B m) (hb:Below B w w'):x.Is w' B m:=
 ⟨h.k,h.e,h.s,h.c,h.so,h.sg.below hb,h.nd.below hb,h.nm.below hb,h.sy.below hb,h.rl.below hb,h.zs.below hb,h.osg,h.ond,h.onm,h.osy,h.orl,h.ozs⟩
theorem Iv.Is.more {w:World} {B B':Nat} {x:Iv} {m:Im} (h:x.Is w B m) (hB:B≤B'):x.Is w B' m:=
 ⟨h.k,h.e,h.s,h.c,h.so,h.sg.more hB,h.nd.more hB,h.nm.more hB,h.sy.more hB,h.rl.more hB,h.zs.more hB,h.osg,h.ond,h.onm,h.osy,h.orl,h.ozs⟩
theorem Strs.empty (w:World) (B:Nat) (a:Option Addr):Strs w B a 0 []:=⟨rfl,fun h=>absurd h (by omega)⟩
theorem iv0_is (w:World) (B:Nat):iv0.Is w B im0:=
 ⟨rfl,rfl,rfl,rfl,rfl,Sgs.empty _ _ _,Strs.empty _ _ _,Strs.empty _ _ _,Sy.Sl.empty _ _ _,Rl.Sl.empty _ _ _,Bys.empty _ _ _,Sh.zero_ok,Sh.zero_ok,Sh.zero_ok,Sh.zero_ok,Sh.zero_ok,Sh.zero_ok⟩
theorem Iv.cs {w:World} {g:Nat} {v0 v1 v2 v3 v4 v5 v6 v7 v8 v9 v10:Value} {t:TypeId} (h:Blk w g #[v0,v1,v2,v3,v4,v5,v6,v7,v8,v9,v10] t) :
 w.cell? ⟨g,0,none⟩=some v0∧w.cell? ⟨g,1,none⟩=some v1∧w.cell? ⟨g,2,none⟩=some v2∧w.cell? ⟨g,3,none⟩=some v3∧w.cell? ⟨g,4,none⟩=some v4∧w.cell? ⟨g,5,none⟩=some v5∧w.cell? ⟨g,6,none⟩=some v6∧w.cell? ⟨g,7,none⟩=some v7∧w.cell? ⟨g,8,none⟩=some v8∧w.cell? ⟨g,9,none⟩=some v9∧w.cell? ⟨g,10,none⟩=some v10:=
 ⟨h.cell 0,h.cell 1,h.cell 2,h.cell 3,h.cell 4,h.cell 5,h.cell 6,h.cell 7,h.cell 8,h.cell 9,h.cell 10⟩
theorem Iv.fs {w:World} {g:Nat} {v0 v1 v2 v3 v4 v5 v6 v7 v8 v9 v10:Value} {t:TypeId} (h:Blk w g #[v0,v1,v2,v3,v4,v5,v6,v7,v8,v9,v10] t) :
 w.frozen? ⟨g,0,none⟩=false∧w.frozen? ⟨g,1,none⟩=false∧w.frozen? ⟨g,2,none⟩=false∧w.frozen? ⟨g,3,none⟩=false∧w.frozen? ⟨g,4,none⟩=false∧w.frozen? ⟨g,5,none⟩=false∧w.frozen? ⟨g,6,none⟩=false∧w.frozen? ⟨g,7,none⟩=false∧w.frozen? ⟨g,8,none⟩=false∧w.frozen? ⟨g,9,none⟩=false∧w.frozen? ⟨g,10,none⟩=false:=
 ⟨h.frozen 0,h.frozen 1,h.frozen 2,h.frozen 3,h.frozen 4,h.frozen 5,h.frozen 6,h.frozen 7,h.frozen 8,h.frozen 9,h.frozen 10⟩
theorem ratN_any (B:Nat) (a:Option Addr) (len cap:Nat) (t:List Int) (p:Int) (w:World) (hb:Bys w B a len t) (hcap:len≤cap) (hcm:(cap:Int)≤9223372036854775807) (p0:0≤p) :
 Calls Tryz.prog 116 #[.slice a len cap,.int .u64 p] w fun e w'=>e=.returned (.tuple #[.string (atN t p).2,.int .i64 (atN t p).1])∧w=w':=by
 obtain ⟨q,rfl⟩:=Int.eq_ofNat_of_zero_le p0;have hl:=hb.1;unfold atN;by_cases h:(t.length:Int)≤(q:Int)
 ·rw [if_pos h];exact rat_range a len cap q w (by omega) (by omega)
 ·rw [if_neg h,Int.toNat_natCast,hl];cases hz:fz (piece t q (len-q)) with
  | some k=>exact k2_rat_ok B a len cap t q k w hb hcap hcm (by omega) (fz_some hz)
  | none=>exact rat_form B a len cap t q w hb hcap hcm (by omega) (fz_none hz)
def CutPost (Z:Int×List Int) (w:World) (e:Ending) (w':World):Prop:=
 (∃u,e=.returned (.tuple #[u,.int .i64 Z.1])∧w'.ownsRow w.heap.size 5 1 u Z.2.length (Z.2.map (Value.int .u8)))∧Below w.heap.size w w'
theorem rcutI_any (B:Nat) (a:Option Addr) (len cap:Nat) (zs:List Int) (p s:Int) (w:World) (hb:Bys w B a len zs) (hB:B≤w.heap.size) (hl:len≤140737488355328) (p0:0≤p) (p1:p≤18446744073709551615) (s0:0≤s) (s1:s≤18446744073709551615) :
 Calls Tryz.prog 108 #[.slice a len cap,.int .u64 p,.int .u64 s] w (CutPost (cutI zs p s) w):=by
 have hz:=hb.1;unfold cutI;by_cases h:(zs.length:Int)<p+s
 ·rw [if_pos h];refine (rcut_range a len cap p s w (by omega) p0 p1 s0 s1 (by omega)).mono ?_;rintro e w' ⟨rfl,rfl⟩;exact ⟨⟨_,rfl,World.ownsRow_nil _ _ _ _⟩,Below.refl _ _⟩
 ·rw [if_neg h];obtain ⟨P,rfl⟩:=Int.eq_ofNat_of_zero_le p0;obtain ⟨S,rfl⟩:=Int.eq_ofNat_of_zero_le s0;rw [Int.toNat_natCast,Int.toNat_natCast];refine (rcut_ok B a len cap zs P S w hb hB hl (by omega)).mono ?_;rintro e w' ⟨a',c,rfl,ho,hbel⟩;refine ⟨⟨_,rfl,?_⟩,hbel⟩;have e:(piece zs P S).length=S:=piece_len (by omega);rw [e];exact ho
theorem cutI_bd {zs:List Int} (h:∀n∈zs,0≤n∧n≤255) (p s:Int):∀n∈(cutI zs p s).2,0≤n∧n≤255:=by
 unfold cutI;split
 ·intro n hn;cases hn
 ·exact piece_mem h
theorem bytesI_bd {zs:List Int} (h:∀n∈zs,0≤n∧n≤255) (L:List Sg) (a s:Int):∀n∈(bytesI L zs a s).2,0≤n∧n≤255:=by
 unfold bytesI;split
 ·intro n hn;cases hn
 ·exact cutI_bd h _ _
theorem cutI_max (zs:List Int) (p s:Int):(cutI zs p s).2.length≤zs.length:=by
 unfold cutI;split
 ·exact Nat.zero_le _
 ·show (piece zs p.toNat s.toNat).length≤zs.length;unfold piece;rw [List.length_take,List.length_drop];omega
theorem bytesI_max (L:List Sg) (zs:List Int) (a s:Int):(bytesI L zs a s).2.length≤zs.length:=by
 unfold bytesI;split
 ·exact Nat.zero_le _
 ·exact cutI_max _ _ _
theorem below_drewN_blk {w:World} {g:Nat} {C:Array Value} {t:TypeId} (h:Blk w g C t) (n:Nat):Blk (w.drewN n) g C t:=by
 induction n with
 | zero=>exact h
 | succ n ih=>exact ih.drew
theorem retI {a b:Int} (h:a=b):Ending.returned (.int .i64 a)=.returned (.int .i64 b):=by rw [h]
theorem any_take_succ {α:Type} (p:α→Bool) (L:List α) {k:Nat} (d:α) (hk:k<L.length):(L.take (k+1)).any p=((L.take k).any p || p (L.getD k d)):=by
 rw [List.take_succ_eq_append_getElem hk,List.any_append,List.getD_eq_getElem?_getD,List.getElem?_eq_getElem hk];simp
theorem held_no {L:List Sg} {rl:List Rl} {k:Nat} (hk:k<rl.length) (h:heldR L (rl.getD k Rl.zero)=false):rl.any (fun r=>!heldR L r)=true:=
 List.any_eq_true.2 ⟨_,Rl.getD_mem hk,by rw [h];rfl⟩
theorem held_yes {L:List Sg} {rl:List Rl} (h:∀k,k<rl.length→heldR L (rl.getD k Rl.zero)=true):rl.any (fun r=>!heldR L r)=false:=by
 rw [List.any_eq_false];intro x hx;obtain ⟨i,hi,rfl⟩:=List.getElem_of_mem hx;have:=h i hi;rw [List.getD_eq_getElem?_getD,List.getElem?_eq_getElem hi] at this;rw [show heldR L rl[i]=true from this];decide
theorem symsE_at {t:Option Sg}:∀{l:List Sy} {k:Nat},(∀j,j<k→symE t (l.getD j Sy.zero)=0)→k<l.length→symE t (l.getD k Sy.zero)≠0→symsE t l=symE t (l.getD k Sy.zero)
 | [],k,_,h,_=>by simp at h
 | s :: l,0,_,_,h=>by
   have h':symE t s≠0:=h;unfold symsE;rw [if_pos h'];rfl
 | s :: l,k+1,h0,h1,h2=>by
   have h':symE t s=0:=h0 0 (by omega);unfold symsE;rw [if_neg (by rw [h'];decide)];exact symsE_at (l:=l) (k:=k) (fun j hj=>h0 (j+1) (by omega)) (by simpa using h1) h2
theorem symsE_no {t:Option Sg}:∀{l:List Sy},(∀j,j<l.length→symE t (l.getD j Sy.zero)=0)→symsE t l=0
 | [],_=>rfl
 | s :: l,h=>by
   have h':symE t s=0:=h 0 (by simp);unfold symsE;rw [if_neg (by rw [h'];decide)];exact symsE_no (l:=l) (fun j hj=>h (j+1) (by simpa using hj))
theorem upto_eq {P:Nat→Prop} {k:Nat} (h:∀j,j<k→P j) (hk:P k):∀j,j<k+1→P j:=by
 intro j hj;by_cases e:j=k
 ·subst e;exact hk
 ·exact h j (by omega)
theorem rheld_any (B:Nat) (x:Iv) (m:Im) (w:World) (h:x.Is w B m) (hB:B≤w.heap.size) :
 Calls Tryz.prog 65 #[x.val] w fun e w'=>e=.returned (.int .i64 (heldI m.sg m.sy m.rl))∧Below w.heap.size w w':=by
 obtain ⟨r,hr⟩:∃r,heldI m.sg m.sy m.rl=r:=⟨_,rfl⟩
 rw [hr];have HRX:Hid (∀k,k<x.rl.n→heldR m.sg (m.rl.getD k Rl.zero)=false→r=40):=Lib.hid (fun k hk h2=>by rw [←hr];unfold heldI;rw [held_no (by rw [h.rl.hl];exact hk) h2,if_pos rfl]);have HRY:Hid ((∀k,k<x.rl.n→heldR m.sg (m.rl.getD k Rl.zero)=true)→r=symsE (m.sg.find? (kindB 7)) m.sy):=Lib.hid (fun h2=>by rw [←hr];unfold heldI;rw [held_yes (by rw [h.rl.hl];exact h2),if_neg (by decide)]);have HSG:=Lib.hid h.sg;have HSY:=Lib.hid h.sy;have HRL:=Lib.hid h.rl;have HFD:Hid (∀w1,Below w.heap.size w w1→Calls Tryz.prog 63 #[.slice x.sg.a x.sg.n x.sg.c,.int .u32 7] w1 fun e w'=>((∃i:Nat,i<x.sg.n∧e=.returned (.int .i64 i)∧m.sg.find? (kindB 7)=some (m.sg.getD i sg0))∨(e=.returned (.int .i64 (-1))∧m.sg.find? (kindB 7)=none))∧w1=w'):=Lib.hid (fun w1 h1=>
  rfind_any B x.sg.a x.sg.n x.sg.c m.sg 7 w1 (h.sg.below (h1.mono hB)) (Nat.le_trans hB h1.size) (by have h1:=h.osg.le;have h2:=h.osg.max;omega))
 obtain ⟨sgl,sgm⟩:=h.osg;obtain ⟨syl,sym⟩:=h.osy;obtain ⟨rll,rlm⟩:=h.orl;generalize m.sg=L at HRX HRY HSG HFD;generalize m.sy=SY at HRY HSY;generalize m.rl=RL at HRX HRY HRL;obtain ⟨k,e,s,c,sg,so,nd,nm,sy,rl,zs⟩:=x;obtain ⟨sga,sgn,sgc⟩:=sg;obtain ⟨sya,syn,syc⟩:=sy;obtain ⟨rla,rln,rlc⟩:=rl;clear h hr;unfold Iv.val;simp only at HRX HRY HSG HSY HRL HFD sgl sgm syl sym rll rlm⊢;obtain ⟨X,hX⟩:∃X:Array Value,X=#[.int .i64 k,.int .u64 e,.int .u64 s,.int .i64 c,.slice sga sgn sgc,.string so,.slice nd.a nd.n nd.c,.slice nm.a nm.n nm.c,.slice sya syn syc,.slice rla rln rlc,.slice zs.a zs.n zs.c]:=⟨_,rfl⟩
 have HK0:Hid (Blk (w.alloc (.cells #[.int .i64 k,.int .u64 e,.int .u64 s,.int .i64 c,.slice sga sgn sgc,.string so,.slice nd.a nd.n nd.c,.slice nm.a nm.n nm.c,.slice sya syn syc,.slice rla rln rlc,.slice zs.a zs.n zs.c] 38)) w.heap.size X 38):=Lib.hid (by rw [hX];exact Blk.new _ _ _);have HXC:Hid (∀w',Blk w' w.heap.size X 38→w'.cell? ⟨w.heap.size,4,none⟩=some (.slice sga sgn sgc)∧w'.cell? ⟨w.heap.size,8,none⟩=some (.slice sya syn syc)∧w'.cell? ⟨w.heap.size,9,none⟩=some (.slice rla rln rlc)):=Lib.hid (fun w' hw=>by
  rw [hX] at hw;obtain ⟨-,-,-,-,q4,-,-,-,q8,q9,-⟩:=Iv.cs hw;exact ⟨q4,q8,q9⟩)
 have HB0:Hid (∀o,Below w.heap.size w (w.alloc o)):=Lib.hid (fun o=>(Below.refl _ _).alloc (Nat.le_refl _) o);clear hX;go_enter Tryz.func65,Tryz.ntmps65
 go_wp2;go_loopw [3,4,5,6] (fun i _ _ _ wr=>∃q:Nat,q≤rln∧i=.int .i64 q∧(∀j,j<q→heldR L (RL.getD j Rl.zero)=true)∧Blk wr w.heap.size X 38∧Below w.heap.size w wr) (fun i _ _ _ _=>rln-(intOf i).toNat)
 case atStart=>exact ⟨0,Nat.zero_le _,rfl,fun j hj=>absurd hj (by omega),HK0.out,HB0.out _⟩
 case round=>
  obtain ⟨q,hq,rfl,hno,hblk,hbel⟩:=hrel;obtain ⟨wo,rfl⟩:∃wo:World,wo=wr:=⟨_,rfl⟩
  obtain ⟨x4,x8,x9⟩:=HXC.out _ hblk;have HKO:=Lib.hid hblk;have HBO:=Lib.hid hbel;by_cases hlt:q<rln
  ·obtain ⟨rb,ro,rfl,hrB,hrc⟩:=HRL.out.hc (by omega);have HRAT:Hid (∀w',Below w.heap.size w w'→Rl.At w' rb (ro+q*4) (RL.getD q Rl.zero)):=Lib.hid (fun w' h'=>(hrc q hlt).below (h'.mono hB) hrB);have HNX:=Lib.hid (HRX.out q hlt);have HYX:Hid (heldR L (RL.getD q Rl.zero)=true→∀j,j<q+1→heldR L (RL.getD j Rl.zero)=true):=Lib.hid (fun h'=>upto_eq (P:=fun j=>heldR L (RL.getD j Rl.zero)=true) hno h');have hrok:=HRL.out.okAt hlt;have hqi:(q:Int)<rln:=by omega
   clear hrc hno hblk hbel;generalize RL.getD q Rl.zero=rr at HRAT HNX HYX hrok;obtain ⟨p0,p1,p2,p3⟩:=HRAT.out _ HBO.out;obtain ⟨⟨f0,f1⟩,⟨t0,t1⟩,-,-⟩:=hrok;have HHR:Hid (heldR L rr=(decide (rr.ty=0) || L.any (inI rr))):=Lib.hid rfl;obtain ⟨rof,rty,rsy,rad⟩:=rr;simp only at p0 p1 p2 p3 f0 f1 t0 t1 HHR;have HZ0:Hid (decide (rty=0)=(decide (rty=0) || (L.take 0).any (inI ⟨rof,rty,rsy,rad⟩))):=Lib.hid (by simp);have hdz:(rty==0)=decide (rty=0):=by
    by_cases e0:rty=0
    ·subst e0;rfl
    ·simp [e0]
   obtain ⟨dz,hdz2⟩:∃dz,decide (rty=0)=dz:=⟨_,rfl⟩
   rw [hdz2] at hdz HZ0 HHR;have HATO:Hid (∀w',Below w.heap.size w w'→w'.cell? ⟨rb,ro+q*4,none⟩=some (.int .u64 rof)):=Lib.hid (fun w' h'=>(HRAT.out w' h').c0);clear hdz2 HRAT;go_wp2;go_loopw [4,5,6] (fun b i _ wr=>∃p:Nat,p≤sgn∧i=.int .i64 p∧b=.bool (dz || (L.take p).any (inI ⟨rof,rty,rsy,rad⟩))∧Blk wr w.heap.size X 38∧Below w.heap.size w wr) (fun _ i _ _=>sgn-(intOf i).toNat)
   case atStart=>exact ⟨0,Nat.zero_le _,rfl,by rw [←HZ0.out],HKO.out,HBO.out⟩
   case round=>
    obtain ⟨p,hp,rfl,rfl,hblk,hbel⟩:=hrel;obtain ⟨y4,y8,y9⟩:=HXC.out _ hblk;have HKE:=Lib.hid hblk;have HBE:=Lib.hid hbel;have hsz:=hbel.size;by_cases hps:p<sgn
    ·obtain ⟨sb,so2,rfl,hsB,hsc⟩:=HSG.out.hc (by omega);obtain ⟨s0,s1,s2,s3,s4,s5,s6⟩:=(hsc p hps).below (hbel.mono hB) hsB;have HTS:Hid ((dz || (L.take (p+1)).any (inI ⟨rof,rty,rsy,rad⟩))=((dz || (L.take p).any (inI ⟨rof,rty,rsy,rad⟩)) || inI ⟨rof,rty,rsy,rad⟩ (L.getD p sg0))):=Lib.hid (by rw [any_take_succ _ _ sg0 (by rw [HSG.out.hl];exact hps),Bool.or_assoc]);have hsok:=HSG.out.okAt hps;have hpi:(p:Int)<sgn:=by omega
     generalize L.getD p sg0=sq at s0 s1 s2 s3 s4 s5 s6 HTS hsok;generalize (dz || (L.take p).any (inI ⟨rof,rty,rsy,rad⟩))=bb at HTS;obtain ⟨⟨g0,g1⟩,-,-,⟨v0,v1⟩,-,⟨m0,m1⟩,-⟩:=hsok;obtain ⟨ty,fl,ot,va,fi,me,al⟩:=sq;simp only at s0 s1 s2 s3 s4 s5 s6 g0 g1 v0 v1 m0 m1;have z0:=HATO.out _ HBE.out;have HBN:Hid (∀o,Below w.heap.size w (wr.alloc o)):=Lib.hid (fun o=>HBE.out.alloc hsz o);have HKN:Hid (∀o,Blk (wr.alloc o) w.heap.size X 38):=Lib.hid (fun o=>HKE.out.alloc o);have hsb:sb<wr.heap.size:=by omega
     have hrbw:rb<wr.heap.size:=by omega
     have hgw:w.heap.size<wr.heap.size:=hblk.lt;clear hsc hblk hbel;obtain ⟨su,hsu⟩:∃su,IntKind.u64.wrap (va+me)=su:=⟨_,rfl⟩
     obtain ⟨di,hdi⟩:∃di,IntKind.u64.wrap (su-rof)=di:=⟨_,rfl⟩
     by_cases c1:ty=1
     ·subst c1;by_cases c2:va≤rof
      ·have d2:decide (va≤rof)=true:=decide_eq_true c2;by_cases c3:rof<su
       ·have d3:decide (rof<su)=true:=decide_eq_true c3;by_cases c4:8≤di
        ·have d4:decide (8≤di)=true:=decide_eq_true c4;have HN:Hid ((dz || (L.take (p+1)).any (inI ⟨rof,rty,rsy,rad⟩))=true):=Lib.hid (by rw [HTS.out];unfold inI;rw [decide_eq_true (by simp only;rw [hsu,hdi];exact ⟨trivial,c2,c3,c4⟩),Bool.or_true]);clear HTS;go_wp2;go_quiet (fail)
         go_wp2;go_roundw
         case rel=>exact ⟨p+1,by omega,by go_num,by rw [HN.out],(below_drewN_blk (HKN.out _) _),below_drewN (HBN.out _) _⟩
         case measure=>(simp [intOf]<;>omega)
        ·have d4:decide (8≤di)=false:=decide_eq_false c4;have HN:Hid ((dz || (L.take (p+1)).any (inI ⟨rof,rty,rsy,rad⟩))=bb):=Lib.hid (by rw [HTS.out];unfold inI;rw [decide_eq_false (by simp only;rw [hsu,hdi];exact fun h=>c4 h.2.2.2),Bool.or_false]);clear HTS;go_wp2;go_quiet (fail)
         go_wp2;go_roundw
         case rel=>exact ⟨p+1,by omega,by go_num,by rw [HN.out],(below_drewN_blk (HKN.out _) _),below_drewN (HBN.out _) _⟩
         case measure=>(simp [intOf]<;>omega)
       ·have d3:decide (rof<su)=false:=decide_eq_false c3;have HN:Hid ((dz || (L.take (p+1)).any (inI ⟨rof,rty,rsy,rad⟩))=bb):=Lib.hid (by rw [HTS.out];unfold inI;rw [decide_eq_false (by simp only;rw [hsu];exact fun h=>c3 h.2.2.1),Bool.or_false]);clear HTS;go_wp2;go_quiet (fail)
        go_wp2;go_roundw
        case rel=>exact ⟨p+1,by omega,by go_num,by rw [HN.out],(below_drewN_blk (HKN.out _) _),below_drewN (HBN.out _) _⟩
        case measure=>(simp [intOf]<;>omega)
      ·have d2:decide (va≤rof)=false:=decide_eq_false c2;have HN:Hid ((dz || (L.take (p+1)).any (inI ⟨rof,rty,rsy,rad⟩))=bb):=Lib.hid (by rw [HTS.out];unfold inI;rw [decide_eq_false (by exact fun h=>c2 h.2.1),Bool.or_false]);clear HTS;go_wp2;go_quiet (fail)
       go_wp2;go_roundw
       case rel=>exact ⟨p+1,by omega,by go_num,by rw [HN.out],(below_drewN_blk (HKN.out _) _),below_drewN (HBN.out _) _⟩
       case measure=>(simp [intOf]<;>omega)
     ·have d1:(ty==1)=false:=by simpa using c1
      have HN:Hid ((dz || (L.take (p+1)).any (inI ⟨rof,rty,rsy,rad⟩))=bb):=Lib.hid (by rw [HTS.out];unfold inI;rw [decide_eq_false (by exact fun h=>c1 h.1),Bool.or_false]);clear HTS;go_wp2;go_quiet (fail)
      go_wp2;go_roundw
      case rel=>exact ⟨p+1,by omega,by go_num,by rw [HN.out],(below_drewN_blk (HKN.out _) _),below_drewN (HBN.out _) _⟩
      case measure=>(simp [intOf]<;>omega)
    ·obtain rfl:p=sgn:=by omega
     have htk:L.take p=L:=List.take_of_length_le (by rw [HSG.out.hl];exact Nat.le_refl _);rw [htk,←HHR.out];cases hh:heldR L ⟨rof,rty,rsy,rad⟩ with
     | true=>
       have HN:=Lib.hid (HYX.out hh);clear hblk hbel htk hh HNX HYX;go_wp2;go_roundw
       case rel=>exact ⟨q+1,by omega,by go_num,HN.out,HKE.out,HBE.out⟩
       case measure=>(simp [intOf]<;>omega)
     | false=>
       have HN:=Lib.hid (HNX.out hh);clear hblk hbel htk hh HNX HYX;go_wp2;go_ret;exact ⟨retI HN.out.symm,HBE.out⟩
  ·obtain rfl:q=rln:=by omega
   have HR:=Lib.hid (HRY.out hno);clear hno hblk hbel;go_wp2_with fail;refine (HFD.out _ HBO.out).mono ?_;rintro e w2 ⟨hf,rfl⟩;rcases hf with ⟨i,hi,rfl,hfi⟩ | ⟨rfl,hfi⟩
   ·
    have HT:=Lib.hid hfi;obtain ⟨sb,so2,rfl,hsB,hsc⟩:=HSG.out.hc (by omega);have HTC:Hid (∀w',Below w.heap.size w w'→w'.cell? ⟨sb,so2+i*7+5,none⟩=some (.int .u64 (L.getD i sg0).me)):=Lib.hid (fun w' h'=>((hsc i hi).below (h'.mono hB) hsB).c5);generalize L.getD i sg0=tg at HT HTC hfi;have hii:(i:Int)<sgn:=by omega
    have hin:(i:Int)≤9223372036854775807:=by omega
    clear hsc;have HSE:Hid ((∀j,j<syn→symE (some tg) (SY.getD j Sy.zero)=0)→r=0):=Lib.hid (fun h'=>by rw [HR.out,HT.out];exact symsE_no (by rw [HSY.out.hl];exact h'));have HSX:Hid (∀j,j<syn→(∀j',j'<j→symE (some tg) (SY.getD j' Sy.zero)=0)→symE (some tg) (SY.getD j Sy.zero)≠0→r=symE (some tg) (SY.getD j Sy.zero)):=Lib.hid (fun j h1 h2 h3=>by rw [HR.out,HT.out];exact symsE_at h2 (by rw [HSY.out.hl];exact h1) h3);clear hfi HT HR HRX HRY HRL HFD;go_wp2;go_loopw [8] (fun i2 wr=>∃j:Nat,j≤syn∧i2=.int .i64 j∧(∀j',j'<j→symE (some tg) (SY.getD j' Sy.zero)=0)∧Blk wr w.heap.size X 38∧Below w.heap.size w wr) (fun i2 _=>syn-(intOf i2).toNat)
    case atStart=>exact ⟨0,Nat.zero_le _,rfl,fun j hj=>absurd hj (by omega),HKO.out,HBO.out⟩
    case round=>
     obtain ⟨j,hj,rfl,hno,hblk,hbel⟩:=hrel;obtain ⟨x4,x8,x9⟩:=HXC.out _ hblk;have HKP:=Lib.hid hblk;have HBP:=Lib.hid hbel;clear hblk hbel;by_cases hlt:j<syn
     ·obtain ⟨yb,yo,rfl,hyB,hyc⟩:=HSY.out.hc (by omega);obtain ⟨e0,e1,e2,e3,e4,e5⟩:=(hyc j hlt).below (HBP.out.mono hB) hyB;have hyok:=HSY.out.okAt hlt;have HX:=Lib.hid (HSX.out j hlt hno);have HNX:=Lib.hid (upto_eq (P:=fun j=>symE (some tg) (SY.getD j Sy.zero)=0) hno);have hct:=HTC.out _ HBP.out;have hji:(j:Int)<syn:=by omega
      clear hyc hno;generalize SY.getD j Sy.zero=sq at e0 e1 e2 e3 e4 e5 hyok HX HNX;obtain ⟨-,⟨i0,i1⟩,-,⟨d0,d1⟩,⟨a0,a1⟩,-⟩:=hyok;obtain ⟨na,inf,ot,se,va,si⟩:=sq;simp only at e0 e1 e2 e3 e4 e5 i0 i1 d0 d1 a0 a1;by_cases c1:se=0
      ·subst c1;have HN:=Lib.hid (HNX.out (by unfold symE;simp));clear HX HNX;go_wp2;go_roundw
       case rel=>exact ⟨j+1,by omega,by go_num,HN.out,HKP.out,HBP.out⟩
       case measure=>(simp [intOf]<;>omega)
      ·have c1b:(se==0)=false:=by simpa using c1
       by_cases c2:inf % 16=6
       ·have c2b:(inf % 16==6)=true:=by simpa using c2
        have dn:decide ((i:Int)<0)=false:=decide_eq_false (by omega);by_cases c3:tg.me<va
        ·have d3:decide (tg.me<va)=true:=decide_eq_true c3;have HN:Hid (r=11):=Lib.hid (by have h1:symE (some tg) ⟨na,inf,ot,se,va,si⟩=11:=(by unfold symE;simp only;rw [if_neg c1,if_pos c2,if_pos c3]);rw [HX.out (by rw [h1];decide),h1]);clear HX HNX;go_wp2;go_quiet (fail)
         go_wp2;go_ret;exact ⟨retI HN.out.symm,below_drewN HBP.out _⟩
        ·have d3:decide (tg.me<va)=false:=decide_eq_false c3;have HN:=Lib.hid (HNX.out (by unfold symE;simp only;rw [if_neg c1,if_pos c2,if_neg c3]));clear HX HNX;go_wp2;go_quiet (fail)
         go_wp2;go_roundw
         case rel=>exact ⟨j+1,by omega,by go_num,HN.out,below_drewN_blk HKP.out _,below_drewN HBP.out _⟩
         case measure=>(simp [intOf]<;>omega)
       ·have c2b:(inf % 16==6)=false:=by simpa using c2
        by_cases c3:4294967296<va
        ·have d3:decide (4294967296<va)=true:=decide_eq_true c3;have HN:Hid (r=13):=Lib.hid (by have h1:symE (some tg) ⟨na,inf,ot,se,va,si⟩=13:=(by unfold symE;simp only;rw [if_neg c1,if_neg c2,if_pos c3]);rw [HX.out (by rw [h1];decide),h1]);clear HX HNX;go_wp2;go_ret;exact ⟨retI HN.out.symm,HBP.out⟩
        ·have d3:decide (4294967296<va)=false:=decide_eq_false c3;have HN:=Lib.hid (HNX.out (by unfold symE;simp only;rw [if_neg c1,if_neg c2,if_neg c3]));clear HX HNX;go_wp2;go_roundw
         case rel=>exact ⟨j+1,by omega,by go_num,HN.out,HKP.out,HBP.out⟩
         case measure=>(simp [intOf]<;>omega)
     ·obtain rfl:j=syn:=by omega
      have HN:=Lib.hid (HSE.out hno);clear hno;go_wp2;go_ret;exact ⟨retI HN.out.symm,HBP.out⟩
   ·
    have HT:=Lib.hid hfi;have HSE:Hid ((∀j,j<syn→symE (none) (SY.getD j Sy.zero)=0)→r=0):=Lib.hid (fun h'=>by rw [HR.out,HT.out];exact symsE_no (by rw [HSY.out.hl];exact h'));have HSX:Hid (∀j,j<syn→(∀j',j'<j→symE (none) (SY.getD j' Sy.zero)=0)→symE (none) (SY.getD j Sy.zero)≠0→r=symE (none) (SY.getD j Sy.zero)):=Lib.hid (fun j h1 h2 h3=>by rw [HR.out,HT.out];exact symsE_at h2 (by rw [HSY.out.hl];exact h1) h3);clear hfi HT HR HRX HRY HRL HFD;go_wp2;go_loopw [8] (fun i2 wr=>∃j:Nat,j≤syn∧i2=.int .i64 j∧(∀j',j'<j→symE (none) (SY.getD j' Sy.zero)=0)∧Blk wr w.heap.size X 38∧Below w.heap.size w wr) (fun i2 _=>syn-(intOf i2).toNat)
    case atStart=>exact ⟨0,Nat.zero_le _,rfl,fun j hj=>absurd hj (by omega),HKO.out,HBO.out⟩
    case round=>
     obtain ⟨j,hj,rfl,hno,hblk,hbel⟩:=hrel;obtain ⟨x4,x8,x9⟩:=HXC.out _ hblk;have HKP:=Lib.hid hblk;have HBP:=Lib.hid hbel;clear hblk hbel;by_cases hlt:j<syn
     ·obtain ⟨yb,yo,rfl,hyB,hyc⟩:=HSY.out.hc (by omega);obtain ⟨e0,e1,e2,e3,e4,e5⟩:=(hyc j hlt).below (HBP.out.mono hB) hyB;have hyok:=HSY.out.okAt hlt;have HX:=Lib.hid (HSX.out j hlt hno);have HNX:=Lib.hid (upto_eq (P:=fun j=>symE (none) (SY.getD j Sy.zero)=0) hno);have hji:(j:Int)<syn:=by omega
      clear hyc hno;generalize SY.getD j Sy.zero=sq at e0 e1 e2 e3 e4 e5 hyok HX HNX;obtain ⟨-,⟨i0,i1⟩,-,⟨d0,d1⟩,⟨a0,a1⟩,-⟩:=hyok;obtain ⟨na,inf,ot,se,va,si⟩:=sq;simp only at e0 e1 e2 e3 e4 e5 i0 i1 d0 d1 a0 a1;by_cases c1:se=0
      ·subst c1;have HN:=Lib.hid (HNX.out (by unfold symE;simp));clear HX HNX;go_wp2;go_roundw
       case rel=>exact ⟨j+1,by omega,by go_num,HN.out,HKP.out,HBP.out⟩
       case measure=>(simp [intOf]<;>omega)
      ·have c1b:(se==0)=false:=by simpa using c1
       by_cases c2:inf % 16=6
       ·have c2b:(inf % 16==6)=true:=by simpa using c2
        have HN:Hid (r=11):=Lib.hid (by have h1:symE (none) ⟨na,inf,ot,se,va,si⟩=11:=(by unfold symE;simp only;rw [if_neg c1,if_pos c2]);rw [HX.out (by rw [h1];decide),h1]);clear HX HNX;go_wp2;go_quiet (fail)
        go_wp2;go_ret;exact ⟨retI HN.out.symm,below_drewN HBP.out _⟩
       ·have c2b:(inf % 16==6)=false:=by simpa using c2
        by_cases c3:4294967296<va
        ·have d3:decide (4294967296<va)=true:=decide_eq_true c3;have HN:Hid (r=13):=Lib.hid (by have h1:symE (none) ⟨na,inf,ot,se,va,si⟩=13:=(by unfold symE;simp only;rw [if_neg c1,if_neg c2,if_pos c3]);rw [HX.out (by rw [h1];decide),h1]);clear HX HNX;go_wp2;go_ret;exact ⟨retI HN.out.symm,HBP.out⟩
        ·have d3:decide (4294967296<va)=false:=decide_eq_false c3;have HN:=Lib.hid (HNX.out (by unfold symE;simp only;rw [if_neg c1,if_neg c2,if_neg c3]));clear HX HNX;go_wp2;go_roundw
         case rel=>exact ⟨j+1,by omega,by go_num,HN.out,HKP.out,HBP.out⟩
         case measure=>(simp [intOf]<;>omega)
     ·obtain rfl:j=syn:=by omega
      have HN:=Lib.hid (HSE.out hno);clear hno;go_wp2;go_ret;exact ⟨retI HN.out.symm,HBP.out⟩
theorem rstrings_eq (B:Nat) (a a':Option Addr) (len cap cap':Nat) (L:List ByteArray) (w:World) (hs:Strs w B a len L) (hs':Strs w B a' len L) (hB:B≤w.heap.size) (hl:(len:Int)≤9223372036854775807) :
 Calls Tryz.prog 26 #[.slice a len cap,.slice a' len cap'] w fun e w'=>e=.returned (.bool true)∧Below w.heap.size w w':=by
 have HS:=Lib.hid hs;have HS2:=Lib.hid hs';have hbne:((len:Int) != len)=false:=by simp
 clear hs hs';go_enter Tryz.func26,Tryz.ntmps26
 go_wp2;go_loopw [5] (fun i wr=>∃k:Nat,k≤len∧i=.int .i64 k∧Below w.heap.size w wr) (fun i _=>len-(intOf i).toNat)
 case atStart=>exact ⟨0,Nat.zero_le _,rfl,Below.refl _ _⟩
 case round=>
  obtain ⟨k,hk,rfl,hbel⟩:=hrel;by_cases hlt:k<len
  ·obtain ⟨b,off,rfl,hbB,hcell⟩:=(HS.out.below (hbel.mono hB)).2 (by omega);obtain ⟨b',off',rfl,hbB',hcell'⟩:=(HS2.out.below (hbel.mono hB)).2 (by omega);have c1:=hcell k hlt;have c2:=hcell' k hlt;have HBE:=Lib.hid hbel;have hki:(k:Int)<len:=by omega
   clear hcell hcell' hbel;generalize L.getD k .empty=s at c1 c2;have hsb:(s.toList==s.toList)=true:=by simp
   go_wp2;go_quiet (fail)
   go_wp2;go_roundw
   case rel=>exact ⟨k+1,by omega,by go_num,below_drewN HBE.out _⟩
   case measure=>(simp [intOf]<;>omega)
  ·obtain rfl:k=len:=by omega
   have HBE:=Lib.hid hbel;clear hbel;go_wp2;go_ret;exact ⟨rfl,HBE.out⟩
theorem rsame_eq (B:Nat) (x y:Iv) (m:Im) (w:World) (hx:x.Is w B m) (hy:y.Is w B m) (hB:B≤w.heap.size) :
 Calls Tryz.prog 12 #[x.val,y.val] w fun e w'=>e=.returned (.bool true)∧Below w.heap.size w w':=by
 have hxsg:=hx.sg.hl.symm.trans hy.sg.hl;have hxnd:=hx.nd.1.symm.trans hy.nd.1;have hxnm:=hx.nm.1.symm.trans hy.nm.1;have hxsy:=hx.sy.hl.symm.trans hy.sy.hl;have hxrl:=hx.rl.hl.symm.trans hy.rl.hl;have hxzs:=hx.zs.1.symm.trans hy.zs.1;have hxk:=hx.k.trans hy.k.symm;have hxe:=hx.e.trans hy.e.symm;have hxs:=hx.s.trans hy.s.symm;have hxc:=hx.c.trans hy.c.symm;have hxo:=hx.so.trans hy.so.symm;have HSG:=Lib.hid hx.sg;have HSG2:=Lib.hid hy.sg;have HSY:=Lib.hid hx.sy;have HSY2:=Lib.hid hy.sy;have HRL:=Lib.hid hx.rl;have HRL2:=Lib.hid hy.rl;have HND:=Lib.hid hx.nd;have HND2:=Lib.hid hy.nd;have HNM:=Lib.hid hx.nm;have HNM2:=Lib.hid hy.nm;have HZS:=Lib.hid hx.zs;have HZS2:=Lib.hid hy.zs;obtain ⟨sgl,sgm⟩:=hx.osg;obtain ⟨syl,sym⟩:=hx.osy;obtain ⟨rll,rlm⟩:=hx.orl;obtain ⟨ndl,ndm⟩:=hx.ond;obtain ⟨nml,nmm⟩:=hx.onm;obtain ⟨zsl,zsm⟩:=hx.ozs;clear hx hy;obtain ⟨k,e,s,c,⟨sga,sgn,sgc⟩,so,⟨nda,ndn,ndc⟩,⟨nma,nmn,nmc⟩,⟨sya,syn,syc⟩,⟨rla,rln,rlc⟩,⟨zsa,zsn,zsc⟩⟩:=x;obtain ⟨k',e',s',c',⟨sga',sgn',sgc'⟩,so',⟨nda',ndn',ndc'⟩,⟨nma',nmn',nmc'⟩,⟨sya',syn',syc'⟩,⟨rla',rln',rlc'⟩,⟨zsa',zsn',zsc'⟩⟩:=y;simp only at hxsg hxnd hxnm hxsy hxrl hxzs hxk hxe hxs hxc hxo HSG HSG2 HSY HSY2 HRL HRL2 HND HND2 HNM HNM2 HZS HZS2 sgl sgm syl sym rll rlm ndl ndm nml nmm zsl zsm;subst hxsg hxnd hxnm hxsy hxrl hxzs hxk hxe hxs hxc hxo;generalize m.sg=L at HSG HSG2;generalize m.sy=SY at HSY HSY2;generalize m.rl=RL at HRL HRL2;generalize m.nd=ND at HND HND2;generalize m.nm=NM at HNM HNM2;generalize m.zs=ZS at HZS HZS2;unfold Iv.val;simp only
 obtain ⟨X,hX⟩:∃X:Array Value,X=#[.int .i64 k,.int .u64 e,.int .u64 s,.int .i64 c,.slice sga sgn sgc,.string so,.slice nda ndn ndc,.slice nma nmn nmc,.slice sya syn syc,.slice rla rln rlc,.slice zsa zsn zsc]:=⟨_,rfl⟩
 obtain ⟨Y,hY⟩:∃Y:Array Value,Y=#[.int .i64 k,.int .u64 e,.int .u64 s,.int .i64 c,.slice sga' sgn sgc',.string so,.slice nda' ndn ndc',.slice nma' nmn nmc',.slice sya' syn syc',.slice rla' rln rlc',.slice zsa' zsn zsc']:=⟨_,rfl⟩
 have HK0:Hid (Blk ((w.alloc (.cells #[.int .i64 k,.int .u64 e,.int .u64 s,.int .i64 c,.slice sga sgn sgc,.string so,.slice nda ndn ndc,.slice nma nmn nmc,.slice sya syn syc,.slice rla rln rlc,.slice zsa zsn zsc] 38)).alloc (.cells #[.int .i64 k,.int .u64 e,.int .u64 s,.int .i64 c,.slice sga' sgn sgc',.string so,.slice nda' ndn ndc',.slice nma' nmn nmc',.slice sya' syn syc',.slice rla' rln rlc',.slice zsa' zsn zsc'] 38)) w.heap.size X 38):=Lib.hid (by rw [hX];exact (Blk.new _ _ _).alloc _);have HK1:Hid (Blk ((w.alloc (.cells #[.int .i64 k,.int .u64 e,.int .u64 s,.int .i64 c,.slice sga sgn sgc,.string so,.slice nda ndn ndc,.slice nma nmn nmc,.slice sya syn syc,.slice rla rln rlc,.slice zsa zsn zsc] 38)).alloc (.cells #[.int .i64 k,.int .u64 e,.int .u64 s,.int .i64 c,.slice sga' sgn sgc',.string so,.slice nda' ndn ndc',.slice nma' nmn nmc',.slice sya' syn syc',.slice rla' rln rlc',.slice zsa' zsn zsc'] 38)) (w.heap.size+1) Y 38):=Lib.hid (by
  rw [hY];have:=Blk.new (w.alloc (.cells #[.int .i64 k,.int .u64 e,.int .u64 s,.int .i64 c,.slice sga sgn sgc,.string so,.slice nda ndn ndc,.slice nma nmn nmc,.slice sya syn syc,.slice rla rln rlc,.slice zsa zsn zsc] 38)) #[.int .i64 k,.int .u64 e,.int .u64 s,.int .i64 c,.slice sga' sgn sgc',.string so,.slice nda' ndn ndc',.slice nma' nmn nmc',.slice sya' syn syc',.slice rla' rln rlc',.slice zsa' zsn zsc'] 38;rw [World.size_alloc] at this;exact this)
 have HXC:Hid (∀w',Blk w' w.heap.size X 38→w'.cell? ⟨w.heap.size,4,none⟩=some (.slice sga sgn sgc)∧w'.cell? ⟨w.heap.size,6,none⟩=some (.slice nda ndn ndc)∧w'.cell? ⟨w.heap.size,7,none⟩=some (.slice nma nmn nmc)∧w'.cell? ⟨w.heap.size,8,none⟩=some (.slice sya syn syc)∧w'.cell? ⟨w.heap.size,9,none⟩=some (.slice rla rln rlc)):=Lib.hid (fun w' hw=>by
  rw [hX] at hw;obtain ⟨-,-,-,-,q4,-,q6,q7,q8,q9,-⟩:=Iv.cs hw;exact ⟨q4,q6,q7,q8,q9⟩)
 have HYC:Hid (∀w',Blk w' (w.heap.size+1) Y 38→w'.cell? ⟨w.heap.size+1,4,none⟩=some (.slice sga' sgn sgc')∧w'.cell? ⟨w.heap.size+1,6,none⟩=some (.slice nda' ndn ndc')∧w'.cell? ⟨w.heap.size+1,7,none⟩=some (.slice nma' nmn nmc')∧w'.cell? ⟨w.heap.size+1,8,none⟩=some (.slice sya' syn syc')∧w'.cell? ⟨w.heap.size+1,9,none⟩=some (.slice rla' rln rlc')):=Lib.hid (fun w' hw=>by
  rw [hY] at hw;obtain ⟨-,-,-,-,q4,-,q6,q7,q8,q9,-⟩:=Iv.cs hw;exact ⟨q4,q6,q7,q8,q9⟩)
 have HB0:Hid (∀o o',Below w.heap.size w ((w.alloc o).alloc o')):=Lib.hid (fun o o'=>((Below.refl _ _).alloc (Nat.le_refl _) o).alloc (by simp) o');have hcv1:∀o o',(convert 22 9 (.slice zsa zsn zsc)).run Tryz.prog ((w.alloc o).alloc o')=.ok (.string (strOfNums ZS)) ((w.alloc o).alloc o'):=fun o o'=>(HZS.out.below ((HB0.out o o').mono hB)).conv zsc;have hcv2:∀o o',(convert 22 9 (.slice zsa' zsn zsc')).run Tryz.prog ((w.alloc o).alloc o')=.ok (.string (strOfNums ZS)) ((w.alloc o).alloc o'):=fun o o'=>(HZS2.out.below ((HB0.out o o').mono hB)).conv zsc';generalize strOfNums ZS=S at hcv1 hcv2;have hSb:(S.toList==S.toList)=true:=by simp
 have hsob:(so.toList==so.toList)=true:=by simp
 have hl1:((sgn:Int) != sgn)=false:=by simp
 have hl2:((syn:Int) != syn)=false:=by simp
 have hl3:((rln:Int) != rln)=false:=by simp
 clear hX hY HZS HZS2;go_enter Tryz.func12,Tryz.ntmps12
 go_wp2;go_loopw [5] (fun i wr=>∃q:Nat,q≤sgn∧i=.int .i64 q∧Blk wr w.heap.size X 38∧Blk wr (w.heap.size+1) Y 38∧Below w.heap.size w wr) (fun i _=>sgn-(intOf i).toNat)
 case atStart=>exact ⟨0,Nat.zero_le _,rfl,HK0.out,HK1.out,HB0.out _ _⟩
 case round=>
  obtain ⟨q,hq,rfl,hka,hkb,hbel⟩:=hrel;obtain ⟨wo0,rfl⟩:∃wo:World,wo=wr:=⟨_,rfl⟩
  obtain ⟨z4,z6,z7,z8,z9⟩:=HXC.out _ hka;obtain ⟨y4,y6,y7,y8,y9⟩:=HYC.out _ hkb;have HKA:=Lib.hid hka;have HKB:=Lib.hid hkb;have HBL:=Lib.hid hbel;clear hka hkb hbel;by_cases hlt:q<sgn
  ·obtain ⟨b,off,rfl,hbB,hcell⟩:=HSG.out.hc (by omega);obtain ⟨b',off',rfl,hbB',hcell'⟩:=HSG2.out.hc (by omega);have hs1:=(hcell q hlt).below (HBL.out.mono hB) hbB;have hs2:=(hcell' q hlt).below (HBL.out.mono hB) hbB';have hqi:(q:Int)<sgn:=by omega
   clear hcell hcell';generalize L.getD q sg0=sq at hs1 hs2;obtain ⟨c0,c1,c2,c3,c4,c5,c6⟩:=hs1;obtain ⟨d0,d1,d2,d3,d4,d5,d6⟩:=hs2;obtain ⟨ty,fl,ot,va,fi,me,al⟩:=sq;simp only at c0 c1 c2 c3 c4 c5 c6 d0 d1 d2 d3 d4 d5 d6;go_wp2;go_quiet (fail)
   go_wp2;go_roundw
   case rel=>exact ⟨q+1,by omega,by go_num,below_drewN_blk HKA.out _,below_drewN_blk HKB.out _,below_drewN HBL.out _⟩
   case measure=>(simp [intOf]<;>omega)
  ·obtain rfl:q=sgn:=by omega
   go_wp2;go_loopw [6] (fun i wr=>∃q:Nat,q≤syn∧i=.int .i64 q∧Blk wr w.heap.size X 38∧Blk wr (w.heap.size+1) Y 38∧Below w.heap.size w wr) (fun i _=>syn-(intOf i).toNat)
   case atStart=>exact ⟨0,Nat.zero_le _,rfl,HKA.out,HKB.out,HBL.out⟩
   case round=>
    obtain ⟨q,hq,rfl,hka,hkb,hbel⟩:=hrel;obtain ⟨wo1,rfl⟩:∃wo:World,wo=wr:=⟨_,rfl⟩
    obtain ⟨z4,z6,z7,z8,z9⟩:=HXC.out _ hka;obtain ⟨y4,y6,y7,y8,y9⟩:=HYC.out _ hkb;have HKA:=Lib.hid hka;have HKB:=Lib.hid hkb;have HBL:=Lib.hid hbel;clear hka hkb hbel;by_cases hlt:q<syn
    ·obtain ⟨b,off,rfl,hbB,hcell⟩:=HSY.out.hc (by omega);obtain ⟨b',off',rfl,hbB',hcell'⟩:=HSY2.out.hc (by omega);have hs1:=(hcell q hlt).below (HBL.out.mono hB) hbB;have hs2:=(hcell' q hlt).below (HBL.out.mono hB) hbB';have hqi:(q:Int)<syn:=by omega
     clear hcell hcell';generalize SY.getD q Sy.zero=sq at hs1 hs2;obtain ⟨c0,c1,c2,c3,c4,c5⟩:=hs1;obtain ⟨d0,d1,d2,d3,d4,d5⟩:=hs2;obtain ⟨na,inf,ot,se,va,si⟩:=sq;simp only at c0 c1 c2 c3 c4 c5 d0 d1 d2 d3 d4 d5;go_wp2;go_quiet (fail)
     go_wp2;go_roundw
     case rel=>exact ⟨q+1,by omega,by go_num,below_drewN_blk HKA.out _,below_drewN_blk HKB.out _,below_drewN HBL.out _⟩
     case measure=>(simp [intOf]<;>omega)
    ·obtain rfl:q=syn:=by omega
     go_wp2;go_loopw [7] (fun i wr=>∃q:Nat,q≤rln∧i=.int .i64 q∧Blk wr w.heap.size X 38∧Blk wr (w.heap.size+1) Y 38∧Below w.heap.size w wr) (fun i _=>rln-(intOf i).toNat)
     case atStart=>exact ⟨0,Nat.zero_le _,rfl,HKA.out,HKB.out,HBL.out⟩
     case round=>
      obtain ⟨q,hq,rfl,hka,hkb,hbel⟩:=hrel;obtain ⟨wo2,rfl⟩:∃wo:World,wo=wr:=⟨_,rfl⟩
      obtain ⟨z4,z6,z7,z8,z9⟩:=HXC.out _ hka;obtain ⟨y4,y6,y7,y8,y9⟩:=HYC.out _ hkb;have HKA:=Lib.hid hka;have HKB:=Lib.hid hkb;have HBL:=Lib.hid hbel;clear hka hkb hbel;by_cases hlt:q<rln
      ·obtain ⟨b,off,rfl,hbB,hcell⟩:=HRL.out.hc (by omega);obtain ⟨b',off',rfl,hbB',hcell'⟩:=HRL2.out.hc (by omega);have hs1:=(hcell q hlt).below (HBL.out.mono hB) hbB;have hs2:=(hcell' q hlt).below (HBL.out.mono hB) hbB';have hqi:(q:Int)<rln:=by omega
       clear hcell hcell';generalize RL.getD q Rl.zero=sq at hs1 hs2;obtain ⟨c0,c1,c2,c3⟩:=hs1;obtain ⟨d0,d1,d2,d3⟩:=hs2;obtain ⟨of,ty,sy,ad⟩:=sq;simp only at c0 c1 c2 c3 d0 d1 d2 d3;go_wp2;go_quiet (fail)
       go_wp2;go_roundw
       case rel=>exact ⟨q+1,by omega,by go_num,below_drewN_blk HKA.out _,below_drewN_blk HKB.out _,below_drewN HBL.out _⟩
       case measure=>(simp [intOf]<;>omega)
      ·obtain rfl:q=rln:=by omega
       obtain ⟨z4,z6,z7,z8,z9⟩:=HXC.out _ HKA.out;obtain ⟨y4,y6,y7,y8,y9⟩:=HYC.out _ HKB.out;go_wp2_with fail;refine (rstrings_eq _ _ _ _ _ _ _ _ (HND.out.below (HBL.out.mono hB)) (HND2.out.below (HBL.out.mono hB)) (Nat.le_trans hB HBL.out.size) (by omega)).mono ?_;rintro r w2 ⟨rfl,hb2⟩;have HB2:=Lib.hid (HBL.out.trans (hb2.mono HBL.out.size));obtain ⟨z4,z6,z7,z8,z9⟩:=HXC.out _ (HKA.out.later hb2);obtain ⟨y4,y6,y7,y8,y9⟩:=HYC.out _ (HKB.out.later hb2);clear hb2;go_wp2_with fail;refine (rstrings_eq _ _ _ _ _ _ _ _ (HNM.out.below (HB2.out.mono hB)) (HNM2.out.below (HB2.out.mono hB)) (Nat.le_trans hB HB2.out.size) (by omega)).mono ?_;rintro r w3 ⟨rfl,hb3⟩;have HB3:=Lib.hid (HB2.out.trans (hb3.mono HB2.out.size));clear hb3;go_wp2;go_ret;exact ⟨rfl,HB3.out⟩
theorem model9_any (x:Iv) (w:World) :
 Calls Tryz.prog 13 #[x.val] w fun r w'=>r=.returned x.val∧Below w.heap.size w w':=by
 obtain ⟨k,e,s,c,⟨sga,sgn,sgc⟩,so,⟨nda,ndn,ndc⟩,⟨nma,nmn,nmc⟩,⟨sya,syn,syc⟩,⟨rla,rln,rlc⟩,⟨zsa,zsn,zsc⟩⟩:=x;unfold Iv.val;simp only
 have hbl:∀o o',Below w.heap.size w ((w.alloc o).alloc o'):=fun o o'=>((Below.refl _ _).alloc (Nat.le_refl _) o).alloc (by simp) o';go_enter Tryz.func13,Tryz.ntmps13
 go_wp2;refine bodyPost_ret (v:=.agg #[.int .i64 k,.int .u64 e,.int .u64 s,.int .i64 c,.slice sga sgn sgc,.string so,.slice nda ndn ndc,.slice nma nmn nmc,.slice sya syn syc,.slice rla rln rlc,.slice zsa zsn zsc]) (by simp [results,Tryz.results13,go_sem]) rfl ⟨rfl,?_⟩;exact hbl _ _
theorem placeI_bd (L:List Sg) (a s:Int):0≤(placeI L a s).2∧(placeI L a s).2≤18446744073709551615:=by
 unfold placeI;split
 ·decide
 ·cases L.find? (placeB a s) with
  | none=>exact ⟨Int.le_refl 0,show (0:Int)≤18446744073709551615 by decide⟩
  | some g=>
    show 0≤placedS g a∧placedS g a≤18446744073709551615;unfold placedS;rw [IntKind.wrap_u64];omega
theorem rbytes_sz (B:Nat) (x:Iv) (L:List Sg) (zs:List Int) (addr size:Int) (w:World) (hsg:Sgs w B x.sg.a x.sg.n L) (hzs:Bys w B x.zs.a x.zs.n zs) (osg:x.sg.Ok) (hB:B≤w.heap.size) (hl:zs.length≤140737488355328) (a0:0≤addr) (a1:addr≤18446744073709551615) (s0:0≤size) (s1:size≤18446744073709551615) :
 Calls Tryz.prog 114 #[x.val,.int .u64 addr,.int .u64 size] w (CutPost (bytesI L zs addr size) w):=by
 have HPL:Hid (∀w1,Below w.heap.size w w1→Calls Tryz.prog 152 #[.slice x.sg.a x.sg.n x.sg.c,.int .u64 addr,.int .u64 size] w1 fun e w'=>e=.returned (.tuple #[.int .u64 (placeI L addr size).2,.int .i64 (placeI L addr size).1])∧Below w1.heap.size w1 w'):=Lib.hid (fun w1 h1=>by
  have:=rplace_any B x.sg.a x.sg.n x.sg.c L addr size w1 (hsg.below (h1.mono hB)) (Nat.le_trans hB h1.size) (by have h1:=osg.le;have h2:=osg.max;omega) a0 a1 s0 s1;rw [placeV_eq] at this;exact this)
 have HCU:Hid (∀w1,Below w.heap.size w w1→Calls Tryz.prog 108 #[.slice x.zs.a x.zs.n x.zs.c,.int .u64 (placeI L addr size).2,.int .u64 size] w1 (CutPost (cutI zs (placeI L addr size).2 size) w1)):=Lib.hid (fun w1 h1=>
  rcutI_any B x.zs.a x.zs.n x.zs.c zs _ size w1 (hzs.below (h1.mono hB)) (Nat.le_trans hB h1.size) (by rw [←hzs.1];exact hl) (placeI_bd _ _ _).1 (placeI_bd _ _ _).2 s0 s1)
 unfold bytesI;generalize placeI L addr size=P at HPL HCU;generalize cutI zs P.2 size=Z at HCU;obtain ⟨pe,pp⟩:=P;obtain ⟨k,e,s,c,sg,so,nd,nm,sy,rl,zz⟩:=x;clear hsg hzs osg;unfold Iv.val;simp only at HPL HCU⊢;have HBL:Hid (∀o,Below w.heap.size w (w.alloc o)):=Lib.hid (fun o=>(Below.refl _ _).alloc (Nat.le_refl _) o);by_cases hpe:pe=0
 ·subst hpe;rw [if_neg (by simp)];go_enter Tryz.func114,Tryz.ntmps114
  go_wp2_with fail;refine (HPL.out _ (HBL.out _)).mono ?_;rintro r w2 ⟨rfl,hb2⟩;obtain ⟨-,-,-,-,-,-,-,-,-,-,q10⟩:=Iv.cs ((Blk.new w _ _).later hb2);have HB2:=Lib.hid ((HBL.out _).trans (hb2.mono (HBL.out _).size));clear hb2;go_wp2_with fail;refine (HCU.out _ HB2.out).mono ?_;rintro r w3 ⟨⟨u,rfl,ho⟩,hb3⟩;have HO:=Lib.hid (own_base ho HB2.out.size);have HB3:=Lib.hid (HB2.out.trans (hb3.mono HB2.out.size));clear ho hb3;go_wp2;go_ret2;exact ⟨⟨_,rfl,HO.out⟩,HB3.out⟩
 ·rw [if_pos hpe];have hpb:(pe != 0)=true:=by simpa using hpe
  go_enter Tryz.func114,Tryz.ntmps114
  go_wp2_with fail;refine (HPL.out _ (HBL.out _)).mono ?_;rintro r w2 ⟨rfl,hb2⟩;have HB2:=Lib.hid ((HBL.out _).trans (hb2.mono (HBL.out _).size));clear hb2;go_wp2;go_ret2;exact ⟨⟨_,rfl,World.ownsRow_nil _ _ _ _⟩,HB2.out⟩
theorem rbytes_any (B:Nat) (x:Iv) (m:Im) (addr size:Int) (w:World) (h:x.Is w B m) (hB:B≤w.heap.size) (hl:m.zs.length≤140737488355328) (a0:0≤addr) (a1:addr≤18446744073709551615) (s0:0≤size) (s1:size≤18446744073709551615) :
 Calls Tryz.prog 114 #[x.val,.int .u64 addr,.int .u64 size] w (CutPost (bytesI m.sg m.zs addr size) w):=
 rbytes_sz B x m.sg m.zs addr size w h.sg h.zs h.osg hB hl a0 a1 s0 s1
structure Nus (w:World) (B:Nat) (a:Option Addr) (len:Nat) (zs:List Int):Prop where
 hl:zs.length=len
 bd:∀n∈zs,0≤n∧n≤18446744073709551615
 hc:0<len→∃b off,a=some ⟨b,off,none⟩∧b<B∧∀i,i<len→w.cell? ⟨b,off+i,none⟩=some (.int .u64 (zs.getD i 0))
theorem Nus.below {w w':World} {B:Nat} {a:Option Addr} {len:Nat} {zs:List Int} (h:Nus w B a len zs) (hb:Below B w w'):Nus w' B a len zs:=
 ⟨h.hl,h.bd,fun hl=>by
  obtain ⟨b,off,e,hB,hc⟩:=h.hc hl;exact ⟨b,off,e,hB,fun i hi=>(hb.cell (p:=⟨b,off+i,none⟩) hB).trans (hc i hi)⟩⟩
theorem Nus.more {w:World} {B B':Nat} {a:Option Addr} {len:Nat} {zs:List Int} (h:Nus w B a len zs) (hB:B≤B'):Nus w B' a len zs:=
 ⟨h.hl,h.bd,fun hl=>by
  obtain ⟨b,off,e,hb,hc⟩:=h.hc hl;exact ⟨b,off,e,Nat.lt_of_lt_of_le hb hB,hc⟩⟩
theorem Nus.empty (w:World) (B:Nat) (a:Option Addr):Nus w B a 0 []:=⟨rfl,fun _ h=>(by cases h),fun h=>absurd h (by omega)⟩
theorem getElem_map_u64 {zs:List Int} {i:Nat} (h:i<zs.length):(zs.map (Value.int .u64))[i]?=some (.int .u64 (zs.getD i 0)):=by
 rw [List.getElem?_map,List.getElem?_eq_getElem h,List.getD_eq_getElem?_getD,List.getElem?_eq_getElem h];rfl
theorem Nus.own {w:World} {base:Nat} {e:TypeId} {a:Option Addr} {len cap:Nat} {zs:List Int} (hz:∀n∈zs,0≤n∧n≤18446744073709551615)
 (h:w.ownsRow base e 1 (.slice a len cap) len (zs.map (Value.int .u64))):Nus w w.heap.size a len zs:=by
 have hl:zs.length=len:=by have:=h.1;simpa using this
 refine ⟨hl,hz,fun hp=>?_⟩;obtain ⟨b,off,e1,hB,hc⟩:=(Cel.own h).2 hp;refine ⟨b,off,e1,hB,fun i hi=>?_⟩;rw [hc i hi,getElem_map_u64 (by omega)]
theorem Nus.at {w:World} {B:Nat} {a:Option Addr} {len:Nat} {zs:List Int} (h:Nus w B a len zs) {i:Nat} (hi:i<len):0≤zs.getD i 0∧zs.getD i 0≤18446744073709551615:=by
 have hl:=h.hl;rw [List.getD_eq_getElem?_getD,List.getElem?_eq_getElem (by omega)];exact h.bd _ (List.getElem_mem (by omega))
theorem Nus.lit (w:World) (zs:List Int) (hz:∀n∈zs,0≤n∧n≤18446744073709551615) (t:TypeId):Nus (w.alloc (.cells (zs.map (Value.int .u64)).toArray t)) (w.heap.size+1) (some ⟨w.heap.size,0,none⟩) zs.length zs:=
 ⟨rfl,hz,fun h=>⟨w.heap.size,0,rfl,by omega,fun i hi=>by
  rw [Nat.zero_add,World.cell?_alloc_at _ _ _ _ rfl];simpa using getElem_map_u64 hi⟩⟩
structure Kp (g:Nat) (W w:World):Prop where
 size:W.heap.size≤w.heap.size
 blk:∀b,b≠g→b<W.heap.size→w.heap[b]?=W.heap[b]?
theorem Kp.refl (g:Nat) (W:World):Kp g W W:=⟨Nat.le_refl _,fun _ _ _=>rfl⟩
theorem Kp.trans {g:Nat} {a b c:World} (h:Kp g a b) (k:Kp g b c):Kp g a c:=
 ⟨Nat.le_trans h.size k.size,fun x hx hl=>(k.blk x hx (Nat.lt_of_lt_of_le hl h.size)).trans (h.blk x hx hl)⟩
theorem Kp.below {g:Nat} {W w:World} (h:Below W.heap.size W w):Kp g W w:=⟨h.size,fun b _ hl=>h.block b hl⟩
theorem Kp.set {g:Nat} {W w:World} (h:Kp g W w) (i:Nat) (u:Value):Kp g W (w.setCell ⟨g,i,none⟩ u):=
 ⟨by have:=h.size;simpa using this,fun b hb hl=>by rw [Below.heap_setCell _ _ _ _ hb];exact h.blk b hb hl⟩
theorem Kp.cell {g:Nat} {W w:World} (h:Kp g W w) {b i:Nat} (hb:b≠g) (hl:b<W.heap.size):w.cell? ⟨b,i,none⟩=W.cell? ⟨b,i,none⟩:=by
 unfold World.cell?;rw [show w.heap[(⟨b,i,none⟩:Addr).block]?=W.heap[(⟨b,i,none⟩:Addr).block]? from h.blk b hb hl]
theorem Kp.blks {g:Nat} {W w:World} (h:Kp g W w) {b:Nat} {C:Array Value} {t:TypeId} (hk:Blk W b C t) (hb:b≠g):Blk w b C t:=by
 unfold Blk;rw [h.blk b hb hk.lt];exact hk
theorem Bys.kp {g:Nat} {W w:World} (h:Kp g W w) {a:Option Addr} {len:Nat} {zs:List Int} (hz:Bys W W.heap.size a len zs) (hn:0<len→∃b,a=some ⟨b,0,none⟩∧b≠g):Bys w w.heap.size a len zs:=by
 refine ⟨hz.1,hz.2.1,fun hl=>?_⟩;obtain ⟨b,off,e,hlt,hc⟩:=hz.2.2 hl;obtain ⟨b',e',hne⟩:=hn hl;rw [e] at e';injection e' with e';injection e' with e1 e2;subst e1;subst e2;exact ⟨b,0,e,Nat.lt_of_lt_of_le hlt h.size,fun i hi=>by rw [h.cell hne hlt];exact hc i hi⟩
theorem Nus.kp {g:Nat} {W w:World} (h:Kp g W w) {a:Option Addr} {len:Nat} {zs:List Int} (hz:Nus W W.heap.size a len zs) (hn:0<len→∃b,a=some ⟨b,0,none⟩∧b≠g):Nus w w.heap.size a len zs:=by
 refine ⟨hz.hl,hz.bd,fun hl=>?_⟩;obtain ⟨b,off,e,hlt,hc⟩:=hz.hc hl;obtain ⟨b',e',hne⟩:=hn hl;rw [e] at e';injection e' with e';injection e' with e1 e2;subst e1;subst e2;exact ⟨b,0,e,Nat.lt_of_lt_of_le hlt h.size,fun i hi=>by rw [h.cell hne hlt];exact hc i hi⟩
end Go.Proofs.YtclgbdfkdbbinaaGreat
