/-
  What is proved here: words and contracts, a part of those that the statement rests on (B8).
  Conditions: none but that the arguments are values of their types.
-/
import Derived.Test.YtclgbdfkdbbinaaGreatB0
import Derived.Test.YtclgbdfkdbbinaaGreatB5
import Derived.Test.YtclgbdfkdbbinaaGreatB7
import Derived.Test.YtclgbdfkdbbinaaGreatB1
import Derived.Test.YtclgbdfkdbbinaaGreatB4
import Derived.Lib.BytesEntry
import Derived.Lib.LazyBuf
import Derived.Deep.RegionWith
set_option linter.unusedVariables false
set_option linter.unusedSimpArgs false
set_option maxRecDepth 100000
set_option maxHeartbeats 12800000
namespace Go.Proofs.YtclgbdfkdbbinaaGreat
open Go.RowKit
structure Pz where
 x:Iv
 fi:Sh
 nd:Sh
 so:Int
 st:Int
 sz:Int
 yt:Int
 yn:Int
 rt:Int
 rz:Int
 tb:Sh
def Pz.cells (p:Pz):Array Value:=#[.int .i64 p.x.k,.int .u64 p.x.e,.int .u64 p.x.s,.int .i64 p.x.c,.slice p.x.sg.a p.x.sg.n p.x.sg.c,.string p.x.so,.slice p.x.nd.a p.x.nd.n p.x.nd.c,.slice p.x.nm.a p.x.nm.n p.x.nm.c,.slice p.x.sy.a p.x.sy.n p.x.sy.c,.slice p.x.rl.a p.x.rl.n p.x.rl.c,.slice p.x.zs.a p.x.zs.n p.x.zs.c,.slice p.fi.a p.fi.n p.fi.c,.slice p.nd.a p.nd.n p.nd.c,.int .u64 p.so,.int .u64 p.st,.int .u64 p.sz,.int .u64 p.yt,.int .u64 p.yn,.int .u64 p.rt,.int .u64 p.rz,.slice p.tb.a p.tb.n p.tb.c]
structure Pm where
 m:Im
 N:List Int
 so:Int
 st:Int
 sz:Int
 yt:Int
 yn:Int
 rt:Int
 rz:Int
 t:List Int
 f:List Int
def pm0 (f:List Int):Pm:=⟨im0,[],0,0,0,0,0,0,0,[],f⟩
def cw (n:Int):Prop:=0≤n∧n≤18446744073709551615
structure nG (w:World) (b:Nat) (p:Pz) (m:Pm):Prop where
 k:p.x.k=m.m.k
 e:p.x.e=m.m.e
 s:p.x.s=m.m.s
 c:p.x.c=m.m.c
 so:p.x.so=m.m.so
 sg:w.ownsRow b 65 7 (.slice p.x.sg.a p.x.sg.n p.x.sg.c) m.m.sg.length (bQ m.m.sg)
 nd:w.ownsRow b 9 1 (.slice p.x.nd.a p.x.nd.n p.x.nd.c) m.m.nd.length (m.m.nd.map Value.string)
 nm:w.ownsRow b 9 1 (.slice p.x.nm.a p.x.nm.n p.x.nm.c) m.m.nm.length (m.m.nm.map Value.string)
 sy:w.ownsRow b 76 6 (.slice p.x.sy.a p.x.sy.n p.x.sy.c) m.m.sy.length (Sy.flat m.m.sy)
 rl:w.ownsRow b 78 4 (.slice p.x.rl.a p.x.rl.n p.x.rl.c) m.m.rl.length (Rl.flat m.m.rl)
 zs:w.ownsRow b 5 1 (.slice p.x.zs.a p.x.zs.n p.x.zs.c) m.m.zs.length (m.m.zs.map (Value.int .u8))
 N:w.ownsRow b 24 1 (.slice p.nd.a p.nd.n p.nd.c) m.N.length (m.N.map (Value.int .u64))
 t:w.ownsRow b 5 1 (.slice p.tb.a p.tb.n p.tb.c) m.t.length (m.t.map (Value.int .u8))
 oks:∀s∈m.m.sg,s.Ok
 oky:∀s∈m.m.sy,s.Ok
 okr:∀s∈m.m.rl,s.Ok
 okz:∀n∈m.m.zs,0≤n∧n≤255
 okN:∀n∈m.N,0≤n∧n≤18446744073709551615
 okt:∀n∈m.t,0≤n∧n≤255
 lz:m.m.zs.length≤65536
 lN:m.N.length≤65537
 ly:m.m.sy.length≤65536
 bs:cw p.x.s
 v0:p.so=m.so∧cw m.so
 v1:p.st=m.st∧cw m.st
 v2:p.sz=m.sz∧cw m.sz
 v3:p.yt=m.yt∧cw m.yt
 v4:p.yn=m.yn∧cw m.yn
 v5:p.rt=m.rt∧cw m.rt
 v6:p.rz=m.rz∧cw m.rz
 zd:m.m.nd=[]→p.x.nd=Sh.zero
 zn:m.m.nm=[]→p.x.nm=Sh.zero
theorem nG.kp {g:Nat} {W w:World} {b:Nat} {p:Pz} {m:Pm} (h:nG W b p m) (hk:Kp g W w) (hg:g<b):nG w b p m:=
 ⟨h.k,h.e,h.s,h.c,h.so,cd hk h.sg hg,cd hk h.nd hg,cd hk h.nm hg,cd hk h.sy hg,cd hk h.rl hg,cd hk h.zs hg,cd hk h.N hg,cd hk h.t hg,h.oks,h.oky,h.okr,h.okz,h.okN,h.okt,h.lz,h.lN,h.ly,h.bs,h.v0,h.v1,h.v2,h.v3,h.v4,h.v5,h.v6,h.zd,h.zn⟩
structure Ps9 (g:Nat) (w:World) (p:Pz) (m:Pm):Prop where
 box:Blk w g p.cells 72
 row:nG w (g+1) p m
 fil:Bys w g p.fi.a p.fi.n m.f
 fok:p.fi.Ok
 fnl:p.fi.a=none→p.fi.c=0
theorem Ps9.lt {g:Nat} {w:World} {p:Pz} {m:Pm} (h:Ps9 g w p m):g<w.heap.size:=h.box.lt
theorem Ps9.later {g:Nat} {w w':World} {p:Pz} {m:Pm} (h:Ps9 g w p m) (hb:Below w.heap.size w w'):Ps9 g w' p m:=
 ⟨h.box.later hb,h.row.kp (Kp.below hb) (Nat.lt_succ_self _),h.fil.below (hb.mono (Nat.le_of_lt h.lt)),h.fok,h.fnl⟩
theorem Ps9.alloc {g:Nat} {w:World} {p:Pz} {m:Pm} (h:Ps9 g w p m) (o:Obj):Ps9 g (w.alloc o) p m:=h.later ((Below.refl _ _).alloc (lZr _) o)
theorem Ps9.drew {g:Nat} {w:World} {p:Pz} {m:Pm} (h:Ps9 g w p m):Ps9 g w.drew p m:=h.later (Below.refl _ _).drew
structure Kq (g:Nat) (w w':World):Prop where
 bel:Below g w w'
 kp:Kp g w w'
theorem Kq.refl (g:Nat) (w:World):Kq g w w:=⟨Below.refl _ _,Kp.refl _ _⟩
theorem Kq.trans {g:Nat} {a b c:World} (h:Kq g a b) (k:Kq g b c):Kq g a c:=⟨h.bel.trans k.bel,h.kp.trans k.kp⟩
theorem Kq.later {g:Nat} {w w':World} (hg:g≤w.heap.size) (h:Below w.heap.size w w'):Kq g w w':=⟨h.mono hg,Kp.below h⟩
theorem Kq.set {g:Nat} {w w':World} (h:Kq g w w') (i:Nat) (u:Value):Kq g w (w'.setCell ⟨g,i,none⟩ u):=⟨h.bel.setCell (lZr _) u,h.kp.set i u⟩
theorem Kq.alloc {g:Nat} {w w':World} (h:Kq g w w') (hg:g≤w'.heap.size) (o:Obj):Kq g w (w'.alloc o):=h.trans (Kq.later hg ((Below.refl _ _).alloc (lZr _) o))
theorem Kq.drew {g:Nat} {w w':World} (h:Kq g w w') (hg:g≤w'.heap.size):Kq g w w'.drew:=h.trans (Kq.later hg (Below.refl _ _).drew)
theorem Ps9.next {g:Nat} {w w':World} {p p':Pz} {m m':Pm} (h:Ps9 g w p m) (hk:Kq g w w') (hbox:Blk w' g p'.cells 72) (hrow:nG w' (g+1) p' m') (h1:p'.fi=p.fi) (h2:m'.f=m.f):Ps9 g w' p' m':=
 ⟨hbox,hrow,by rw [h1,h2];exact h.fil.below hk.bel,by rw [h1];exact h.fok,by rw [h1];exact h.fnl⟩
theorem Ps9.seg {g:Nat} {w:World} {p:Pz} {m:Pm} (h:Ps9 g w p m):Sgs w w.heap.size p.x.sg.a p.x.sg.n m.m.sg∧p.x.sg.n≤p.x.sg.c∧(p.x.sg.c:Int)≤9223372036854775807:=by
 have ho:=h.row.sg;obtain ⟨n0,l0,c0⟩:=cT ho;rw [←n0] at ho;exact ⟨Sgs.own h.row.oks ho,l0,c0⟩
theorem Ps9.bys {g:Nat} {w:World} {p:Pz} {m:Pm} (h:Ps9 g w p m):Bys w w.heap.size p.x.zs.a p.x.zs.n m.m.zs∧p.x.zs.n≤p.x.zs.c∧(p.x.zs.c:Int)≤9223372036854775807∧p.x.zs.n≤65536:=by
 have ho:=h.row.zs;obtain ⟨n0,l0,c0⟩:=cT ho;rw [←n0] at ho;exact ⟨Bys.own h.row.okz ho,l0,c0,by rw [n0];exact h.row.lz⟩
theorem Ps9.tab {g:Nat} {w:World} {p:Pz} {m:Pm} (h:Ps9 g w p m):Bys w w.heap.size p.tb.a p.tb.n m.t∧p.tb.n≤p.tb.c∧(p.tb.c:Int)≤9223372036854775807:=by
 have ho:=h.row.t;obtain ⟨n0,l0,c0⟩:=cT ho;rw [←n0] at ho;exact ⟨Bys.own h.row.okt ho,l0,c0⟩
theorem Ps9.sym {g:Nat} {w:World} {p:Pz} {m:Pm} (h:Ps9 g w p m):Sy.Sl w w.heap.size p.x.sy.a p.x.sy.n m.m.sy∧p.x.sy.n≤p.x.sy.c∧(p.x.sy.c:Int)≤9223372036854775807:=by
 have ho:=h.row.sy;obtain ⟨n0,l0,c0⟩:=cT ho;rw [←n0] at ho;exact ⟨Sy.Sl.own h.row.oky ho,l0,c0⟩
theorem Ps9.rel {g:Nat} {w:World} {p:Pz} {m:Pm} (h:Ps9 g w p m):Rl.Sl w w.heap.size p.x.rl.a p.x.rl.n m.m.rl∧p.x.rl.n≤p.x.rl.c∧(p.x.rl.c:Int)≤9223372036854775807:=by
 have ho:=h.row.rl;obtain ⟨n0,l0,c0⟩:=cT ho;rw [←n0] at ho;exact ⟨Rl.Sl.own h.row.okr ho,l0,c0⟩
def ky (g:Nat) (Z:Int×Pm) (w:World) (r:Ending) (w':World):Prop:=
 r=.returned (.int .i64 Z.1)∧(Z.1=0→∃p,Ps9 g w' p Z.2)∧Kq g w w'
def fp (g:Nat) (f:FuncId) (Z:Pm→Int×Pm):Prop:=
 ∀(p:Pz) (m:Pm) (w:World),Ps9 g w p m→Calls Tryz.prog f #[.pointer (some ⟨g,0,none⟩)] w (ky g (Z m) w)
def iF (g:Nat) (f:FuncId) (pre:Pm→Prop) (Z:Pm→Int×Pm):Prop:=
 ∀(p:Pz) (m:Pm) (w:World),pre m→Ps9 g w p m→Calls Tryz.prog f #[.pointer (some ⟨g,0,none⟩)] w (ky g (Z m) w)
theorem fp.at' {g:Nat} {f:FuncId} {Z:Pm→Int×Pm} (h:fp g f Z) (pre:Pm→Prop):iF g f pre Z:=fun p m w _ h1=>h p m w h1
def cS:List (Pm→Int×Pm)→Pm→Int×Pm
 | [],m=>(0,m)
 | f :: fs,m=>if (f m).1≠0 then f m else cS fs (f m).2
theorem vx {fs:List (Pm→Int×Pm)} {q:Nat} {m:Pm} (h:q<fs.length):cS (fs.drop q) m=if ((fs.getD q fun m=>(0,m)) m).1≠0 then (fs.getD q fun m=>(0,m)) m else cS (fs.drop (q+1)) ((fs.getD q fun m=>(0,m)) m).2:=by
 rw [ic fs (fun m=>(0,m)) h];rfl
def rR (g:Nat) (f:FuncId):Value:=.func (.func f) #[.pointer (some ⟨g,0,none⟩)] #[]
def im (g:Nat) (f:Value→World→Prop):Prop:=∀u w w',f u w→Kq g w w'→f u w'
theorem aX {g:Nat} {Fs:List (Value→World→Prop)} (h:∀f∈Fs,im g f):∀(i:Nat) (u:Value) (w w':World),aU Fs i u w→Kq g w w'→aU Fs i u w':=by
 intro i u w w' hf hb;unfold aU at *;rw [gZe] at *;cases e:Fs[i]? with
 | none=>trivial
 | some f=>
   rw [e] at hf;exact h f (List.mem_of_getElem? e) _ _ _ hf hb
theorem ac {g:Nat} {f:Value→World→Prop} {Fs:List (Value→World→Prop)} (h:im g f) (k:∀f∈Fs,im g f):∀x∈f :: Fs,im g x:=by
 intro x hx;rcases List.mem_cons.1 hx with rfl | hx
 ·exact h
 ·exact k x hx
theorem bU (g:Nat):∀f∈([]:List (Value→World→Prop)),im g f:=fun _ h=>by cases h
theorem Is.mono9 (g:Nat) (v:Value):im g (Is v):=fun _ _ _ h _=>h
def kd:Value→World→Prop:=fun _ _=>True
theorem kd.mono (g:Nat):im g kd:=fun _ _ _ _ _=>trivial
def Ow (b:Nat) (e:TypeId) (k n:Nat) (xs:List Value) (u:Value) (w:World):Prop:=w.ownsRow b e k u n xs
theorem Ow.mono {g b:Nat} (hg:g<b) (e:TypeId) (k n:Nat) (xs:List Value):im g (Ow b e k n xs):=fun _ _ _ h hk=>cd hk.kp h hg
def OwE (b:Nat) (e:TypeId) (k n:Nat) (xs:List Value) (er:Int) (u:Value) (w:World):Prop:=∃v,u=.tuple #[v,.int .i64 er]∧w.ownsRow b e k v n xs
theorem OwE.mono {g b:Nat} (hg:g<b) (e:TypeId) (k n:Nat) (xs:List Value) (er:Int):im g (OwE b e k n xs er):=fun _ _ _ h hk=>by
 obtain ⟨v,h1,h2⟩:=h;exact ⟨v,h1,cd hk.kp h2 hg⟩
theorem Jo.call {i j:Nat} {P0 P1:World→Prop} {w':World} {L:Nat→Bool} (hji:j≠i) (hL:L j=false) (hw:P0 w'):Jo j P0 P1 (upd L i) w':=
 ⟨fun _=>hw,by rw [aE _ hji,hL];intro h;cases h⟩
theorem jT (g h n:Nat) (ks:List FuncId) (fs:List (Pm→Int×Pm)) (C:Array Value) (t:TypeId) (p:Pz) (m:Pm) (w:World) (hp:Ps9 g w p m) (hh:Blk w h C t) (hg:h≠g) (hn:fs.length=n) (hn2:n≤100)
 (hC:∀q,q<n→C[q]?=some (rR g (ks.getD q 0))) (hk:∀q,q<n→ks.getD q 0=19∨ks.getD q 0=20∨ks.getD q 0=21∨ks.getD q 0=22∨ks.getD q 0=23∨ks.getD q 0=24∨ks.getD q 0=51∨ks.getD q 0=52∨ks.getD q 0=53∨ks.getD q 0=54∨ks.getD q 0=55∨ks.getD q 0=56) (pre:Nat→Pm→Prop) (hp0:pre 0 m) (hpn:∀q m,q<n→pre q m→((fs.getD q fun m=>(0,m)) m).1=0→pre (q+1) ((fs.getD q fun m=>(0,m)) m).2) (hs:∀q,q<n→iF g (ks.getD q 0) (pre q) (fs.getD q fun m=>(0,m))) :
 Calls Tryz.prog 18 #[.slice (some ⟨h,0,none⟩) n n] w (ky g (cS fs m) w):=by
 obtain ⟨Z,hZ⟩:∃Z,cS fs m=Z:=⟨_,rfl⟩
 rw [hZ];have HZ:Hid (cS (fs.drop 0) m=Z):=hZz (by rw [List.drop_zero];exact hZ);have HP:=hZz hp;have HH:=hZz hh;have HC:=hZz hC;have HS:=hZz hs;have HN:=hZz hn;have HPN:=hZz hpn;have HPZ:=hZz hp0;have hni:(n:Int)≤100:=by omega
 clear hp hh hC hs hn hZ hpn hp0;go_enter Tryz.func18,Tryz.ntmps18
 go_wp2;go_loopw [4,5,8] (fun _ _ i wr=>∃(q:Nat) (p':Pz) (m':Pm),q≤n∧i=.int .i64 q∧Ps9 g wr p' m'∧Kq g w wr∧pre q m'∧cS (fs.drop q) m'=Z) (fun _ _ i _=>n-(intOf i).toNat)
 case atStart=>exact ⟨0,p,m,Nat.zero_le _,rfl,HP.out,Kq.refl _ _,HPZ.out,HZ.out⟩
 case round=>
  obtain ⟨q,p',m',hq,rfl,hst,hkq,hpr,hr⟩:=hrel;have HST:=hZz hst;have HKQ:=hZz hkq;have HHW:=hZz (HKQ.out.kp.blks HH.out hg);by_cases hlt:q<n
  ·have hqi:(q:Int)<n:=by omega
   have c0:wr.cell? ⟨h,q,none⟩=some (rR g (ks.getD q 0)):=by rw [HHW.out.cell q];exact HC.out q hlt
   have hhl:=HHW.out.lt;have HCA:=hZz (HS.out q hlt p' m' wr hpr HST.out);have HNX:=hZz (HPN.out q m' hlt hpr);rw [vx (by rw [HN.out];exact hlt)] at hr;have hkk:=hk q hlt;generalize ks.getD q 0=k at c0 HCA hkk;generalize (fs.getD q fun m=>(0,m))=f at HCA hr HNX;unfold rR at c0;have HR:=hZz hr;clear hst hkq hr hk hpr;rcases hkk with rfl | rfl | rfl | rfl | rfl | rfl | rfl | rfl | rfl | rfl | rfl | rfl;all_goals (
    go_wp2_with fail;refine HCA.out.mono ?_;rintro r w2 ⟨rfl,hok,hk2⟩;have HK2:=hZz (HKQ.out.trans hk2);by_cases he:(f m').1=0
    ·obtain ⟨p2,hp2⟩:=hok he;have he0:=hZz he;have hr2:=HR.out;rw [if_neg (by rw [he];decide)] at hr2;have HP2:=hZz hp2;have HR2:=hZz hr2;rw [he];clear hok hk2 hp2 hr2;go_wp2;go_roundw
     case rel=>exact ⟨q+1,p2,_,by omega,by go_num,HP2.out,HK2.out,HNX.out he0.out,HR2.out⟩
     case measure=>(simp [intOf]<;>omega)
    ·have heb:((f m').1 != 0)=true:=by rw [bne_iff_ne];exact he
     have hr2:=HR.out;rw [if_pos he] at hr2;subst hr2;have HOK:=hZz hok;clear hok hk2;go_wp2;go_ret;exact ⟨rfl,HOK.out,HK2.out⟩)
  ·obtain rfl:q=n:=by omega
   have hr2:Z=(0,m'):=by
    rw [←hr,List.drop_eq_nil_of_le (by rw [HN.out];exact lZr _)];rfl
   subst hr2;clear hst hkq hr hpr;go_wp2;go_ret;exact ⟨rfl,fun _=>⟨p',HST.out⟩,HKQ.out⟩
def Rb (base:Nat) (w:World) (v:Value) (zs:List Int):Prop:=w.ownsRow base 5 1 v zs.length (zs.map (Value.int .u8))
theorem rr (B:Nat) (a:Option Addr) (n c:Nat) (zs:List Int) (w:World) (hb:Bys w B a n zs) (hB:B≤w.heap.size) (hnil:a=none→c=0) (hn:n≤1000000) :
 Calls Tryz.prog 43 #[.slice a n c] w fun r w'=>(∃u,r=.returned u∧Rb w.heap.size w' u zs)∧Below w.heap.size w w':=by
 obtain ⟨i0,hi,hz0,hz1,hz2⟩:=info_parts aM;have HI:=hZz hi;have HZ0:=hZz hz0;have HZ1:=hZz hz1;have HZ2:=hZz hz2;have HBY:=hZz hb;have HNIL:=hZz hnil;clear hi hz0 hz1 hz2 hb hnil;cases a with
 | none=>
   have h0:n=0:=by
    rcases Nat.eq_zero_or_pos n with h0 | h0
    ·exact h0
    ·obtain ⟨b,off,e,_⟩:=HBY.out.2.2 h0;cases e
   subst h0;obtain rfl:=HNIL.out rfl;have hz:zs=[]:=List.eq_nil_of_length_eq_zero HBY.out.1;subst hz;have hq:∀wx,(binOp .eql 22 (.slice none 0 0) (.slice none 0 0)).run Tryz.prog wx=.ok (.bool true) wx:=fun wx=>by
    have h:=Tryz.underlying22;simp [binOp,Op.equal,Op.maxDepth,Lib.run_equalIn_slice_nil wx 9999 _ _ none 0 0 0 0 h]
   go_enter Tryz.func43,Tryz.ntmps43
   go_wp2;go_ret;exact ⟨⟨_,rfl,World.ownsRow_nil _ _ _ _⟩,Below.refl _ _⟩
 | some ad=>
   have hq:∀wx,(binOp .eql 22 (.slice (some ad) n c) (.slice none 0 0)).run Tryz.prog wx=.ok (.bool false) wx:=fun wx=>by
    have h:=Tryz.underlying22;simp [binOp,Op.equal,Op.maxDepth,Lib.run_equalIn_slice_nil wx 9999 _ _ (some ad) n c 0 0 h]
   go_enter Tryz.func43,Tryz.ntmps43
   have HSZ:Hid (n=zs.length):=hZz HBY.out.1.symm;have HO0:Hid ((w.alloc (.cells #[] 5)).ownsRow w.heap.size 5 1 (.slice (some ⟨w.heap.size,0,none⟩) 0 0) 0 ([]:List Value)):=hZz ⟨rfl,.inr ⟨_,_,_,rfl,lZr _,Blk.new w #[] _,lZr _,by decide,rfl,rfl⟩⟩;have hbl:Below w.heap.size w (w.alloc (.cells #[] 5)):=(Below.refl _ _).alloc (lZr _) _;have HBL:=hZz hbl;have HBY2:=hZz (HBY.out.below (hbl.mono hB));clear hbl;go_wp2_with (at_builtin;refine ag rfl _ _ 22 rfl w.heap.size 5 i0 (.int .u8 0) 1 Tryz.underlying22 HI.out HZ0.out HZ1.out HZ2.out rfl _ 0 _ rfl HO0.out _ n c _ zs rfl HBY2.out (fun e=>by cases e) ?e1 ?e2 ?e3 ?_);case e1=>unfold maxLen;omega
   case e2=>omega
   case e3=>simp
   intro v2 w2 hown hg;have HO2:Hid (Rb w.heap.size w2 v2 zs):=hZz (by
    unfold Rb;rw [←HSZ.out];simpa using hown)
   have HB2:Hid (Below w.heap.size w w2):=hZz (HBL.out.grown hg HBL.out.size (fun q e=>(HO0.out.lt q e).1));clear hown hg;go_wp2;go_ret;exact ⟨⟨_,rfl,HO2.out⟩,HB2.out⟩
def cat (zss:List (List Int)) (k:Nat):List Int:=(zss.take k).flatten
theorem tL {zss:List (List Int)} {k:Nat} (h:k<zss.length):cat zss (k+1)=cat zss k++zss.getD k []:=by
 unfold cat;rw [List.take_succ_eq_append_getElem h,List.flatten_append,gZe,gZg h];simp
theorem vk (zss:List (List Int)):cat zss zss.length=zss.flatten:=by unfold cat;rw [List.take_length]
theorem wP (zss:List (List Int)) (k:Nat):(cat zss k).length≤zss.flatten.length:=by
 have:zss.flatten=cat zss k++(zss.drop k).flatten:=by
  unfold cat;rw [←List.flatten_append,List.take_append_drop]
 rw [this,lZa];omega
theorem uB (B:Nat) (a:Option Addr) (len cap:Nat) (vs:List Value) (zss:List (List Int)) (w:World) (hc:Cel w B a len vs) (hB:B≤w.heap.size) (hl:(len:Int)≤9223372036854775807)
 (hz:zss.length=len) (hv:∀i,i<len→aI (zss.getD i []) (vs.getD i undef) w) (hbd:∀i,i<len→∀n∈zss.getD i [],0≤n∧n≤255) (ht:zss.flatten.length≤1099511627776) (h0:0<zss.flatten.length) :
 Calls Tryz.prog 133 #[.slice a len cap] w fun r w'=>(∃u,r=.returned u∧w'.ownsRow w.heap.size 5 1 u zss.flatten.length (zss.flatten.map (Value.int .u8)))∧Below w.heap.size w w':=by
 obtain ⟨i0,hi,hz0,hz1,hz2⟩:=info_parts aM;have HC:=hZz hc;have HV:=hZz hv;have HBD:=hZz hbd;have HZ:=hZz hz;have HT:=hZz ht;have HP:=hZz h0;have HI:=hZz hi;have HZ0:=hZz hz0;have HZ1:=hZz hz1;have HZ2:=hZz hz2;clear hc hv hbd hz ht h0 hi hz0 hz1 hz2;go_enter Tryz.func133,Tryz.ntmps133
 go_wp2_with (at_make;refine wpList_make_own _ rfl _ _ 22 rfl w.heap.size 5 i0 (.int .u8 0) 1 Tryz.underlying22 HI.out HZ0.out HZ1.out .i64 .i64 _ 64 rfl rfl rfl ?c1 ?c2 ?c3 ?_);case c1=>rw [HZ2.out];omega
 case c2=>unfold maxLen;omega
 case c3=>exact lZr _
 intro w1 hown hg;have hb1:Below w.heap.size w w1:=(Below.refl _ _).grown hg (lZr _) (fun _ e=>by cases e);have HOWN:=hZz hown;clear hown hg;go_wp2;go_loopw [3,5,9] (fun v _ i wr=>∃k:Nat,k≤len∧i=.int .i64 k∧wr.ownsRow w.heap.size 5 1 v (cat zss k).length ((cat zss k).map (Value.int .u8))∧Below w.heap.size w wr) (fun _ _ i _=>len-(intOf i).toNat)
 case atStart=>exact ⟨0,Nat.zero_le _,rfl,HOWN.out,hb1⟩
 case round=>
  obtain ⟨k,hk,rfl,hown,hbel⟩:=hrel;by_cases hlt:k<len
  ·obtain ⟨b,off,rfl,hbB,hcell⟩:=HC.out.2 oZm;obtain ⟨g,c,hvk,_,_,hby⟩:=HV.out k hlt;have hc:=(hbel.cell (p:=⟨b,off+k,none⟩) (by show b<_;omega)).trans (hcell k hlt);have hvl:k<vs.length:=by have:=HC.out.1;omega
   rw [gZe,gZg hvl] at hvk;simp only [Option.getD_some] at hvk;rw [gZg hvl,hvk] at hc;have hcs:=hZz (tL (zss:=zss) (k:=k) (by have:=HZ.out;omega));have hle:=hZz (wP zss (k+1));have hb2:=hby.below hbel;generalize zss.getD k []=zs at hcs hc hb2;have HSRC:Hid (∀(j:Nat) (v:Value),(zs.map (Value.int .u8))[j]?=some v→wr.cell? ((⟨g,0,none⟩:Addr).add j)=some v):=hZz (by
    intro j v hj;have hj':j<zs.length:=by
     rcases Nat.lt_or_ge j zs.length with h | h
     ·exact h
     ·rw [List.getElem?_eq_none (by simpa using h)] at hj;cases hj
    obtain ⟨b',off',e,_,hcc⟩:=hb2.2.2 oZm;injection e with e;injection e with e1 e2;subst e1;subst e2;exact Bys.src hb2.1 hcc j v hj)
   have HOW:=hZz hown;have hsum:Hid ((cat zss k).length+zs.length=(cat zss (k+1)).length):=hZz (by rw [hcs.out,lZa]);have hsz:=hbel.size;clear hcell hvk hby hb2 hown hvl;go_wp2_with (at_builtin;refine wpList_append_own _ rfl _ _ 22 rfl w.heap.size 5 i0 (.int .u8 0) 1 1 Tryz.underlying22 HI.out HZ0.out HZ1.out HZ2.out rfl dZc _ (cat zss k).length _ rfl HOW.out ⟨g,0,none⟩ zs.length c (zs.map (Value.int .u8)) rfl ?c1 HSRC.out ?c2 ?c3 ?c4 ?c5 ?_);case c1=>rw [List.length_map];omega
   case c2=>exact jy zs
   case c3=>unfold maxLen;have:=hsum.out;have:=hle.out;have:=HT.out;omega
   case c4=>have:=hsum.out;have:=hle.out;have:=HT.out;omega
   case c5=>exact hsz
   intro v' w2 hown2 hg2 hnil2;have hb2:Below w.heap.size w w2:=hbel.grown hg2 hsz (fun q e=>(HOW.out.lt q e).1);have HO2:Hid (w2.ownsRow w.heap.size 5 1 v' (cat zss (k+1)).length ((cat zss (k+1)).map (Value.int .u8))):=hZz (by
    rw [←hsum.out,hcs.out,List.map_append];exact hown2)
   clear hown2 hg2 hnil2 hc hbel;go_wp2;go_roundw
   case rel=>exact ⟨k+1,by omega,by go_num,HO2.out,hb2⟩
   case measure=>simp [intOf];omega
  ·obtain rfl:k=len:=by omega
   have HF:Hid (cat zss k=zss.flatten):=hZz (by rw [←HZ.out,vk]);rw [HF.out] at hown;have HM:=hZz hown;clear hown;go_wp2;go_ret;exact ⟨⟨_,rfl,HM.out⟩,hbel⟩
def cC (k e s c:Int):List (List Int):=[hd0,ai k 2,ai 19823 2,ai 1 4,ai e 8,ai s 8,ai 0 8,ai 0 4,ai 64 2,ai 56 2,ai c 2,ai 0 2,ai 0 2,ai 0 2]
theorem gj (k e s c:Int):(cC k e s c).flatten=enc k e s c:=by simp [cC,enc]
theorem sr (k e s c:Int):∀i,i<14→∀n∈(cC k e s c).getD i [],0≤n∧n≤255:=by
 intro i hi n hn;refine mS k e s c n ?_;rw [←gj];have hl:i<(cC k e s c).length:=hi;rw [gZe,gZg hl] at hn;exact List.mem_flatten.2 ⟨_,List.getElem_mem hl,hn⟩
def gX (v:Value):Value→World→Prop:=fun u _=>u=v
def lW (zss:List (List Int)) (u:Value) (w:World):Prop:=∃vs g,u=.slice (some ⟨g,0,none⟩) zss.length zss.length∧Cel w w.heap.size (some ⟨g,0,none⟩) zss.length vs∧∀i,i<zss.length→aI (zss.getD i []) (vs.getD i undef) w
theorem aI.kept {B m:Nat} {zs:List Int} {u:Value} {w w':World} (h:aI zs u w) (hb:bG B m w w'):aI zs u w':=by
 obtain ⟨g,c,e,h1,h2,h3⟩:=h;exact ⟨g,c,e,h1,h2,h3.kept hb⟩
theorem lW.kept {B m:Nat} {zss:List (List Int)} {u:Value} {w w':World} (h:lW zss u w) (hb:bG B m w w'):lW zss u w':=by
 obtain ⟨vs,g,e,hc,hm⟩:=h;exact ⟨vs,g,e,hc.kept hb,fun i hi=>(hm i hi).kept hb⟩
def Own (B:Nat) (zs:List Int) (u:Value) (w:World):Prop:=w.ownsRow B 5 1 u zs.length (zs.map (Value.int .u8))
def iX (B:Nat) (zs:List Int) (u:Value) (w:World):Prop:=∃g fr,u=.slice (some ⟨g,0,none⟩) zs.length zs.length∧B≤g∧w.heap[g]?=some (.cells (zs.map (Value.int .u8)).toArray 5 fr)
theorem iX.kept {B B' m:Nat} {zs:List Int} {u:Value} {w w':World} (h:iX B zs u w) (hb:bG B' m w w'):iX B zs u w':=by
 obtain ⟨g,fr,e,hB,hg⟩:=h;obtain ⟨fr',h',_⟩:=hb.cells _ _ _ _ hg;exact ⟨g,fr',e,hB,h'⟩
theorem iX.made {B:Nat} {zs:List Int} {u:Value} {w:World} (h:iX B zs u w) (hz:∀n∈zs,0≤n∧n≤255) (hl:zs.length≤1000000):aI zs u w:=by
 obtain ⟨g,fr,e,hB,hg⟩:=h;have hlt:=(Array.getElem?_eq_some_iff.1 hg).1;refine ⟨g,zs.length,e,lZr _,by omega,rfl,hz,fun _=>⟨g,0,rfl,hlt,fun i hi=>?_⟩⟩;unfold World.cell?;simp only [hg,Nat.zero_add];have:=gV hi;simpa using this
theorem uO (k e s c:Int) (w:World) (h:dY k c=false) :
 Calls Tryz.prog 87 #[cU k e s c] w fun r w'=>r=.returned (.tuple #[.slice none 0 0,.int .i64 1])∧Below w.heap.size w w':=by
 have HV:Hid (∀w1,Calls Tryz.prog 132 #[cU k e s c] w1 fun r w'=>r=.returned (.bool false)∧Below w1.heap.size w1 w'):=hZz (fun w1=>h▸jd k e s c w1);clear h;unfold cU at *;go_enter Tryz.func87,Tryz.ntmps87
 go_wp2_with (go_at_call 132;refine (HV.out _).mono ?_);rintro r w1 ⟨rfl,hb⟩;have hbb:Below w.heap.size w w1:=((Below.refl _ _).alloc (lZr _) _).trans (hb.mono (by simp));clear hb;go_wp2;go_ret2;exact ⟨rfl,hbb⟩
def qb (B b:Nat) (k e s c:Int):List (Value→World→Prop):=
 [iX B hd0,aI hd0,gX (.pointer (some ⟨b,0,none⟩)),gX (.int .i64 k),gX (.int .u64 k),aI (ai k 2),aI (ai 19823 2),aI (ai 1 4),gX (.pointer (some ⟨b,1,none⟩)),gX (.int .u64 e),aI (ai e 8),
  gX (.pointer (some ⟨b,2,none⟩)),gX (.int .u64 s),aI (ai s 8),aI (ai 0 8),aI (ai 0 4),aI (ai 64 2),aI (ai 56 2),gX (.pointer (some ⟨b,3,none⟩)),gX (.int .i64 c),gX (.int .u64 c),aI (ai c 2),
  aI (ai 0 2),aI (ai 0 2),aI (ai 0 2),lW (cC k e s c),Own B (enc k e s c),Own B (enc k e s c),gX (.int .i64 0)]
def vu (B b:Nat) (k e s c:Int) (i:Nat):Value→World→Prop:=(qb B b k e s c).getD i fun _ _=>True
theorem qP (B b:Nat) (k e s c:Int):∀(i:Nat) (u:Value) (w w':World),vu B b k e s c i u w→bG B 16 w w'→vu B b k e s c i u w':=by
 intro i u w w' h hb;unfold vu at *;by_cases hi:i<(qb B b k e s c).length
 ·rw [gZe,gZg hi] at *;have hm:=List.getElem_mem hi;generalize (qb B b k e s c)[i]=f at *;simp only [qb,List.mem_cons,List.not_mem_nil,or_false] at hm;rcases hm with rfl | rfl | rfl | rfl | rfl | rfl | rfl | rfl | rfl | rfl | rfl | rfl | rfl | rfl | rfl | rfl | rfl | rfl | rfl | rfl | rfl | rfl | rfl | rfl | rfl | rfl | rfl | rfl | rfl;all_goals first | exact aI.kept h hb | exact lW.kept h hb | exact iX.kept h hb | exact sC (n:=(enc k e s c).length) h hb (by rw [dZ];decide) | exact h
 ·rw [gZe,List.getElem?_eq_none (by omega)];trivial
theorem fr34 (y:Nat→Value):af 34 y=#[y 0,y 1,y 2,y 3,y 4,y 5,y 6,y 7,y 8,y 9,y 10,y 11,y 12,y 13,y 14,y 15,y 16,y 17,y 18,y 19,y 20,y 21,y 22,y 23,y 24,y 25,y 26,y 27,y 28,y 29,y 30,y 31,y 32,y 33]:=rfl
theorem li (k e s c:Int) (w:World) (h:dY k c=true) (e0:0≤e) (e1':e≤18446744073709551615) (s0:0≤s) (s1:s≤18446744073709551615) :
 Calls Tryz.prog 87 #[cU k e s c] w fun r w'=>(∃u,r=.returned (.tuple #[u,.int .i64 0])∧w'.ownsRow w.heap.size 5 1 u 64 ((enc k e s c).map (Value.int .u8)))∧Below w.heap.size w w':=by
 have HV:Hid (∀w1,Calls Tryz.prog 132 #[cU k e s c] w1 fun r w'=>r=.returned (.bool true)∧Below w1.heap.size w1 w'):=hZz (fun w1=>h▸jd k e s c w1);obtain ⟨k0,k1,c0,c1⟩:=dF.1 h;clear h;unfold cU at *;go_enter Tryz.func87,Tryz.ntmps87
 go_wp2_with (go_at_call 132;refine (HV.out _).mono ?_);rintro r w1 ⟨rfl,hb⟩;have hbb:Below w.heap.size w w1:=((Below.refl _ _).alloc (lZr _) _).trans (hb.mono (by simp));have q0:w1.cell? ⟨w.heap.size,0,none⟩=some (.int .i64 k):=(hb.cell (p:=⟨w.heap.size,0,none⟩) (by simp)).trans (by simp [World.cell?_alloc_at]);have q1:w1.cell? ⟨w.heap.size,1,none⟩=some (.int .u64 e):=(hb.cell (p:=⟨w.heap.size,1,none⟩) (by simp)).trans (by simp [World.cell?_alloc_at]);have q2:w1.cell? ⟨w.heap.size,2,none⟩=some (.int .u64 s):=(hb.cell (p:=⟨w.heap.size,2,none⟩) (by simp)).trans (by simp [World.cell?_alloc_at]);have q3:w1.cell? ⟨w.heap.size,3,none⟩=some (.int .i64 c):=(hb.cell (p:=⟨w.heap.size,3,none⟩) (by simp)).trans (by simp [World.cell?_alloc_at]);have hbs:w.heap.size<w1.heap.size:=by have:=hb.size;simp at this;omega
 clear hb;obtain ⟨b,hbe⟩:∃b,w.heap.size=b:=⟨_,rfl⟩
 rw [hbe] at q0 q1 q2 q3 hbs;go_wp2;refine ka (by kernel_rfl) (bG w1.heap.size 16) (bG.refl _ _) (fun _ _ _ h h'=>h.trans h') 34 rfl [7,8,9,10,11,12,13,14,15,16,17,18,19,20,21,22,23,24,25,26,27,28,29,30,31,32,33,2,3] (vu w1.heap.size b k e s c) (by kernel_rfl) (qP w1.heap.size b k e s c) ?steps ?fin;case fin=>
  intro v w2 hb2 hF;obtain ⟨u,hu⟩:∃u,v 27=u:=⟨_,rfl⟩
  have h2:Own w1.heap.size (enc k e s c) u w2:=hu▸hF 27 dZc;unfold Own at h2;rw [dZ] at h2;have h4:=bL h2 hbb.size;have h3:v 28=.int .i64 0:=hF 28 dZc;simp only [aO,List.set_cons_succ,List.set_cons_zero,Nat.reduceAdd,h3,hu];go_wp2;go_ret2;exact ⟨⟨u,rfl,h4⟩,hbb.drew.trans (hb2.below.mono hbb.size)⟩
 case steps=>
  obtain ⟨B,hBe⟩:∃B,w1.heap.size=B:=⟨_,rfl⟩
  have HC:Hid (∀w2,bG B 16 w1.drew w2→B≤w2.heap.size∧w2.cell? ⟨b,0,none⟩=some (.int .i64 k)∧w2.cell? ⟨b,1,none⟩=some (.int .u64 e)∧w2.cell? ⟨b,2,none⟩=some (.int .u64 s)∧w2.cell? ⟨b,3,none⟩=some (.int .i64 c)):=hZz (fun w2 hw=>
   ⟨hBe▸hw.size,hw.cell q0,hw.cell q1,hw.cell q2,hw.cell q3⟩)
  rw [hBe];clear q0 q1 q2 q3 HV hbb hbs hbe hBe;refine ⟨?_,?_,?_,?_,?_,?_,?_,?_,?_,?_,?_,?_,?_,?_,?_,?_,?_,?_,?_,?_,?_,?_,?_,?_,?_,?_,?_,?_,?_,trivial⟩;all_goals intro y w2 hb hy0 hp0
  all_goals refine oo.plain rfl ?_
  all_goals intro K Q hK
  all_goals obtain ⟨hB,q0,q1,q2,q3⟩:=HC.out w2 hb
  all_goals simp only [fr34] at hK⊢
  all_goals have hy:=hZz hy0
  all_goals have hp:=hZz hp0
  all_goals clear hy0 hp0
  ·go_simp;refine hK _ _ ⟨bG.of_below hB ((Below.refl _ _).alloc (lZr _) _),w2.heap.size,(0,0),rfl,hB,heap_alloc_new w2 _⟩
  ·obtain ⟨g,fr,hu,hg1,hg2⟩:iX B hd0 (y 7) w2:=hp.out 0 dZc;have hM:iX B hd0 (y 7) w2:=⟨g,fr,hu,hg1,hg2⟩
   rw [hu] at hK hM⊢;have hrun:=kg (P:=Tryz.prog) w2 22 5 g hd0.length hd0.length _ fr hg2 Tryz.underlying22 Tryz.underlying5;have hkp:bG B 16 w2 (w2.freeze ⟨g,((hd0.map (Value.int .u8)).toArray).size,none⟩ 1):=bG.freeze hg1 hg2 rfl;go_simp;exact hK _ _ ⟨hkp,(hM.kept hkp).made dZc dZc⟩
  ·have e1:y 1=.pointer (some ⟨b,0,none⟩):=hy.out 1 dZc;rw [e1] at hK⊢;go_simp;exact hK _ _ ⟨bG.refl _ _ _,rfl⟩
  ·have e1:y 9=.pointer (some ⟨b,0,none⟩):=hp.out 2 dZc;rw [e1] at hK⊢;go_simp;exact hK _ _ ⟨bG.refl _ _ _,rfl⟩
  ·have e1:y 10=.int .i64 k:=hp.out 3 dZc;have hw:IntKind.u64.wrap k=k:=by rw [IntKind.wrap_u64];omega
   rw [e1] at hK⊢;go_simp;exact hK _ _ ⟨bG.refl _ _ _,rfl⟩
  ·have e1:y 11=.int .u64 k:=hp.out 4 dZc;rw [e1] at hK⊢;go_simp;go_at_call 134
   refine (bj k 2 _ dZc oZm oZm).mono ?_;rintro r w3 ⟨⟨u,rfl,hm⟩,hb3⟩;exact hK u w3 ⟨bG.of_below hB hb3,hm⟩
  ·go_simp;go_at_call 134
   refine (bj 19823 2 _ dZc dZc dZc).mono ?_;rintro r w3 ⟨⟨u,rfl,hm⟩,hb3⟩;exact hK u w3 ⟨bG.of_below hB hb3,hm⟩
  ·go_simp;go_at_call 134
   refine (bj 1 4 _ dZc dZc dZc).mono ?_;rintro r w3 ⟨⟨u,rfl,hm⟩,hb3⟩;exact hK u w3 ⟨bG.of_below hB hb3,hm⟩
  ·have e1:y 1=.pointer (some ⟨b,0,none⟩):=hy.out 1 dZc;rw [e1] at hK⊢;go_simp;exact hK _ _ ⟨bG.refl _ _ _,rfl⟩
  ·have e1:y 15=.pointer (some ⟨b,1,none⟩):=hp.out 8 dZc;rw [e1] at hK⊢;go_simp;exact hK _ _ ⟨bG.refl _ _ _,rfl⟩
  ·have e1:y 16=.int .u64 e:=hp.out 9 dZc;rw [e1] at hK⊢;go_simp;go_at_call 134
   refine (bj e 8 _ dZc e0 e1').mono ?_;rintro r w3 ⟨⟨u,rfl,hm⟩,hb3⟩;exact hK u w3 ⟨bG.of_below hB hb3,hm⟩
  ·have e1:y 1=.pointer (some ⟨b,0,none⟩):=hy.out 1 dZc;rw [e1] at hK⊢;go_simp;exact hK _ _ ⟨bG.refl _ _ _,rfl⟩
  ·have e1:y 18=.pointer (some ⟨b,2,none⟩):=hp.out 11 dZc;rw [e1] at hK⊢;go_simp;exact hK _ _ ⟨bG.refl _ _ _,rfl⟩
  ·have e1:y 19=.int .u64 s:=hp.out 12 dZc;rw [e1] at hK⊢;go_simp;go_at_call 134
   refine (bj s 8 _ dZc s0 s1).mono ?_;rintro r w3 ⟨⟨u,rfl,hm⟩,hb3⟩;exact hK u w3 ⟨bG.of_below hB hb3,hm⟩
  ·go_simp;go_at_call 134
   refine (bj 0 8 _ dZc dZc dZc).mono ?_;rintro r w3 ⟨⟨u,rfl,hm⟩,hb3⟩;exact hK u w3 ⟨bG.of_below hB hb3,hm⟩
  ·go_simp;go_at_call 134
   refine (bj 0 4 _ dZc dZc dZc).mono ?_;rintro r w3 ⟨⟨u,rfl,hm⟩,hb3⟩;exact hK u w3 ⟨bG.of_below hB hb3,hm⟩
  ·go_simp;go_at_call 134
   refine (bj 64 2 _ dZc dZc dZc).mono ?_;rintro r w3 ⟨⟨u,rfl,hm⟩,hb3⟩;exact hK u w3 ⟨bG.of_below hB hb3,hm⟩
  ·go_simp;go_at_call 134
   refine (bj 56 2 _ dZc dZc dZc).mono ?_;rintro r w3 ⟨⟨u,rfl,hm⟩,hb3⟩;exact hK u w3 ⟨bG.of_below hB hb3,hm⟩
  ·have e1:y 1=.pointer (some ⟨b,0,none⟩):=hy.out 1 dZc;rw [e1] at hK⊢;go_simp;exact hK _ _ ⟨bG.refl _ _ _,rfl⟩
  ·have e1:y 25=.pointer (some ⟨b,3,none⟩):=hp.out 18 dZc;rw [e1] at hK⊢;go_simp;exact hK _ _ ⟨bG.refl _ _ _,rfl⟩
  ·have e1:y 26=.int .i64 c:=hp.out 19 dZc;have hw:IntKind.u64.wrap c=c:=by rw [IntKind.wrap_u64];omega
   rw [e1] at hK⊢;go_simp;exact hK _ _ ⟨bG.refl _ _ _,rfl⟩
  ·have e1:y 27=.int .u64 c:=hp.out 20 dZc;rw [e1] at hK⊢;go_simp;go_at_call 134
   refine (bj c 2 _ dZc oZm oZm).mono ?_;rintro r w3 ⟨⟨u,rfl,hm⟩,hb3⟩;exact hK u w3 ⟨bG.of_below hB hb3,hm⟩
  ·go_simp;go_at_call 134
   refine (bj 0 2 _ dZc dZc dZc).mono ?_;rintro r w3 ⟨⟨u,rfl,hm⟩,hb3⟩;exact hK u w3 ⟨bG.of_below hB hb3,hm⟩
  ·go_simp;go_at_call 134
   refine (bj 0 2 _ dZc dZc dZc).mono ?_;rintro r w3 ⟨⟨u,rfl,hm⟩,hb3⟩;exact hK u w3 ⟨bG.of_below hB hb3,hm⟩
  ·go_simp;go_at_call 134
   refine (bj 0 2 _ dZc dZc dZc).mono ?_;rintro r w3 ⟨⟨u,rfl,hm⟩,hb3⟩;exact hK u w3 ⟨bG.of_below hB hb3,hm⟩
  ·have m0:aI hd0 (y 8) w2:=hp.out 1 dZc;have m1:aI (ai k 2) (y 12) w2:=hp.out 5 dZc;have m2:aI (ai 19823 2) (y 13) w2:=hp.out 6 dZc;have m3:aI (ai 1 4) (y 14) w2:=hp.out 7 dZc;have m4:aI (ai e 8) (y 17) w2:=hp.out 10 dZc;have m5:aI (ai s 8) (y 20) w2:=hp.out 13 dZc;have m6:aI (ai 0 8) (y 21) w2:=hp.out 14 dZc;have m7:aI (ai 0 4) (y 22) w2:=hp.out 15 dZc;have m8:aI (ai 64 2) (y 23) w2:=hp.out 16 dZc;have m9:aI (ai 56 2) (y 24) w2:=hp.out 17 dZc;have m10:aI (ai c 2) (y 28) w2:=hp.out 21 dZc;have m11:aI (ai 0 2) (y 29) w2:=hp.out 22 dZc;have m12:aI (ai 0 2) (y 30) w2:=hp.out 23 dZc;have m13:aI (ai 0 2) (y 31) w2:=hp.out 24 dZc;have M:∀i,i<14→aI ((cC k e s c).getD i []) ([y 8,y 12,y 13,y 14,y 17,y 20,y 21,y 22,y 23,y 24,y 28,y 29,y 30,y 31].getD i undef) w2:=by
    intro i hi;have:i=0∨i=1∨i=2∨i=3∨i=4∨i=5∨i=6∨i=7∨i=8∨i=9∨i=10∨i=11∨i=12∨i=13:=by omega
    rcases this with rfl | rfl | rfl | rfl | rfl | rfl | rfl | rfl | rfl | rfl | rfl | rfl | rfl | rfl;all_goals assumption
   obtain ⟨g0,a0,u0,-⟩:=m0;obtain ⟨g1,a1,u1,-⟩:=m1;obtain ⟨g2,a2,u2,-⟩:=m2;obtain ⟨g3,a3,u3,-⟩:=m3;obtain ⟨g4,a4,u4,-⟩:=m4;obtain ⟨g5,a5,u5,-⟩:=m5;obtain ⟨g6,a6,u6,-⟩:=m6;obtain ⟨g7,a7,u7,-⟩:=m7;obtain ⟨g8,a8,u8,-⟩:=m8;obtain ⟨g9,a9,u9,-⟩:=m9;obtain ⟨g10,a10,u10,-⟩:=m10;obtain ⟨g11,a11,u11,-⟩:=m11;obtain ⟨g12,a12,u12,-⟩:=m12;obtain ⟨g13,a13,u13,-⟩:=m13;rw [u0,u1,u2,u3,u4,u5,u6,u7,u8,u9,u10,u11,u12,u13] at hK M⊢;go_simp;have hkp:=bG.of_below (m:=16) hB ((Below.refl w2.heap.size w2).alloc (lZr _) (.cells #[.slice (some ⟨g0,0,none⟩) hd0.length a0,.slice (some ⟨g1,0,none⟩) (ai k 2).length a1,.slice (some ⟨g2,0,none⟩) (ai 19823 2).length a2,.slice (some ⟨g3,0,none⟩) (ai 1 4).length a3,.slice (some ⟨g4,0,none⟩) (ai e 8).length a4,.slice (some ⟨g5,0,none⟩) (ai s 8).length a5,.slice (some ⟨g6,0,none⟩) (ai 0 8).length a6,.slice (some ⟨g7,0,none⟩) (ai 0 4).length a7,.slice (some ⟨g8,0,none⟩) (ai 64 2).length a8,.slice (some ⟨g9,0,none⟩) (ai 56 2).length a9,.slice (some ⟨g10,0,none⟩) (ai c 2).length a10,.slice (some ⟨g11,0,none⟩) (ai 0 2).length a11,.slice (some ⟨g12,0,none⟩) (ai 0 2).length a12,.slice (some ⟨g13,0,none⟩) (ai 0 2).length a13] 22));refine hK _ _ ⟨hkp,_,w2.heap.size,rfl,⟨?_,fun _=>⟨w2.heap.size,0,rfl,?_,fun i hi=>?_⟩⟩,fun i hi=>(M i hi).kept hkp⟩
   ·rfl
   ·simp
   ·rw [Nat.zero_add,World.cell?_alloc_at _ _ _ _ rfl,←List.getElem?_toArray]
  ·obtain ⟨vs,g,hu,hc,hm⟩:lW (cC k e s c) (y 32) w2:=hp.out 25 dZc;rw [hu] at hK⊢;go_simp;go_at_call 133
   refine (uB _ _ _ _ vs (cC k e s c) _ hc (lZr _) (show (14:Int)≤9223372036854775807 by decide) rfl hm (sr k e s c) (by rw [gj,dZ];decide) (by rw [gj,dZ];decide)).mono ?_;rintro r w3 ⟨⟨u,rfl,hm⟩,hb3⟩;rw [gj] at hm;exact hK u w3 ⟨bG.of_below hB hb3,bL hm hB⟩
  ·have m:Own B (enc k e s c) (y 33) w2:=hp.out 26 dZc;go_simp;exact hK _ _ ⟨bG.refl _ _ _,m⟩
  ·go_simp;exact hK _ _ ⟨bG.refl _ _ _,rfl⟩
theorem rv (k e s c:Int) (w:World) (h:dY k c=true) (e0:0≤e) (e1:e≤18446744073709551615) (s0:0≤s) (s1:s≤18446744073709551615) :
 Calls Tryz.prog 87 #[cU k e s c] w fun r w'=>(∃u,r=.returned (.tuple #[u,.int .i64 0])∧aI (enc k e s c) u w')∧Below w.heap.size w w':=
 (li k e s c w h e0 e1 s0 s1).mono fun r w' ⟨⟨u,hr,ho⟩,hb⟩=>⟨⟨u,hr,ni (base:=w.heap.size) (by rw [dZ];exact ho) (by rw [dZ];decide) (mS k e s c)⟩,hb⟩
theorem pt (a:Option Addr) (len cap:Nat) (w:World) (h:len<64) :
 Calls Tryz.prog 44 #[.slice a len cap] w fun r w'=>r=.returned (.tuple #[cU 0 0 0 0,.int .i64 10])∧Below w.heap.size w w':=by
 have hi:(len:Int)<64:=by omega
 unfold cU;go_enter Tryz.func44,Tryz.ntmps44
 go_wp2;refine bodyPost_ret (v:=.tuple #[.agg #[.int .i64 0,.int .u64 0,.int .u64 0,.int .i64 0],.int .i64 10]) (by simp [results,Tryz.results44,go_sem]) rfl ⟨rfl,?_⟩;first | exact (Below.refl _ _).alloc (lZr _) _ | exact ((Below.refl _ _).alloc (lZr _) _).setCell (lZr _) _
theorem vz (B:Nat) (a:Option Addr) (len cap:Nat) (zs:List Int) (w:World) (hb:Bys w B a len zs) (hB:B≤w.heap.size) (hcap:len≤cap) (hcm:(cap:Int)≤9223372036854775807) (h:64≤len) (hv:dY (kOf zs) (cOf zs)=false) :
 Calls Tryz.prog 44 #[.slice a len cap] w fun r w'=>r=.returned (.tuple #[cU 0 0 0 0,.int .i64 11])∧Below w.heap.size w w':=by
 have hi:(64:Int)≤len:=by omega
 have hli:(len:Int)≤9223372036854775807:=by omega
 have HBY:=hZz hb;have HV:=hZz hv;have hk:=tE hb.2.1 (by have:=hb.1;omega);have hc:=tu hb.2.1 (by have:=hb.1;omega);have hR:∀w1,Below w.heap.size w w1→Bys w1 B a len zs:=fun w1 h1=>hb.below (h1.mono hB);have HR:=hZz hR;have R1:Hid (∀w1,Below w.heap.size w w1→Calls Tryz.prog 86 #[.slice a len cap,.int .u64 16,.int .i64 2] w1 fun e w'=>e=.returned (.int .u64 (kOf zs))∧w1=w'):=hZz (fun w1 h1=>cY B a len cap zs 16 2 w1 (hR w1 h1) dZc hli oZm);have R2:Hid (∀w1,Below w.heap.size w w1→Calls Tryz.prog 86 #[.slice a len cap,.int .u64 24,.int .i64 8] w1 fun e w'=>e=.returned (.int .u64 (eOf zs))∧w1=w'):=hZz (fun w1 h1=>cY B a len cap zs 24 8 w1 (hR w1 h1) dZc hli oZm);have R3:Hid (∀w1,Below w.heap.size w w1→Calls Tryz.prog 86 #[.slice a len cap,.int .u64 32,.int .i64 8] w1 fun e w'=>e=.returned (.int .u64 (sOf zs))∧w1=w'):=hZz (fun w1 h1=>cY B a len cap zs 32 8 w1 (hR w1 h1) dZc hli oZm);have R4:Hid (∀w1,Below w.heap.size w w1→Calls Tryz.prog 86 #[.slice a len cap,.int .u64 56,.int .i64 2] w1 fun e w'=>e=.returned (.int .u64 (cOf zs))∧w1=w'):=hZz (fun w1 h1=>cY B a len cap zs 56 2 w1 (hR w1 h1) dZc hli oZm);obtain ⟨hk0,hk1⟩:=hk;obtain ⟨hc0,hc1⟩:=hc;have HBL:Hid (∀o,Below w.heap.size w (w.alloc o)):=hZz (fun o=>(Below.refl _ _).alloc (lZr _) o);clear hb hv hR;unfold cU at *;go_enter Tryz.func44,Tryz.ntmps44
 go_wp2_with (first | (go_at_call 86;with_reducible refine (R1.out _ (HBL.out _)).mono ?_;rintro r w' ⟨rfl,rfl⟩) | (go_at_call 86;with_reducible refine (R2.out _ (HBL.out _)).mono ?_;rintro r w' ⟨rfl,rfl⟩) | (go_at_call 86;with_reducible refine (R3.out _ (HBL.out _)).mono ?_;rintro r w' ⟨rfl,rfl⟩) | (go_at_call 86;with_reducible refine (R4.out _ (HBL.out _)).mono ?_;rintro r w' ⟨rfl,rfl⟩) | (go_at_call 87;refine Calls.mono (uO _ _ _ _ _ HV.out) ?_));rintro r w2 ⟨rfl,hb⟩;have hbb:Below w.heap.size w w2:=(((Below.refl _ _).alloc (lZr _) _).alloc (by simp) _).trans (hb.mono (by simp;omega));obtain ⟨q0,q1,q2,q3⟩:=(((Blk.new w _ _).alloc _).later hb).c4;obtain ⟨f0,f1,f2,f3⟩:=(((Blk.new w _ _).alloc _).later hb).f4;clear hb;go_wp2;refine bodyPost_ret (v:=.tuple #[.agg #[.int .i64 0,.int .u64 0,.int .u64 0,.int .i64 0],.int .i64 11]) (by simp [results,Tryz.results44,go_sem,q0,q1,q2,q3]) rfl ⟨rfl,?_⟩;exact (((hbb.setCell (lZr _) _).setCell (lZr _) _).setCell (lZr _) _).setCell (lZr _) _
theorem ue (B:Nat) (a:Option Addr) (len cap:Nat) (zs:List Int) (w:World) (hb:Bys w B a len zs) (hB:B≤w.heap.size) (hcap:len≤cap) (hcm:(cap:Int)≤9223372036854775807) (h:64≤len) (hv:dY (kOf zs) (cOf zs)=true) (y:Bool) (hy:decide (enc (kOf zs) (eOf zs) (sOf zs) (cOf zs)=am zs 0 64)=y) :
 Calls Tryz.prog 44 #[.slice a len cap] w fun r w'=>r=.returned (if y then .tuple #[cU (kOf zs) (eOf zs) (sOf zs) (cOf zs),.int .i64 0] else .tuple #[cU 0 0 0 0,.int .i64 11])∧Below w.heap.size w w':=by
 have hi:(64:Int)≤len:=by omega
 have hli:(len:Int)≤9223372036854775807:=by omega
 have hci:(64:Int)≤cap:=by omega
 obtain ⟨b,off,rfl,-,-⟩:=hb.2.2 oZm;have hk:=tE hb.2.1 (by have:=hb.1;omega);have hc:=tu hb.2.1 (by have:=hb.1;omega);have he:=xo hb.2.1 (by have:=hb.1;omega);have hs:=pX hb.2.1 (by have:=hb.1;omega);have hR:∀w1,Below w.heap.size w w1→Bys w1 B (some ⟨b,off,none⟩) len zs:=fun w1 h1=>hb.below (h1.mono hB);have R1:Hid (∀w1,Below w.heap.size w w1→Calls Tryz.prog 86 #[.slice (some ⟨b,off,none⟩) len cap,.int .u64 16,.int .i64 2] w1 fun e w'=>e=.returned (.int .u64 (kOf zs))∧w1=w'):=hZz (fun w1 h1=>cY B _ len cap zs 16 2 w1 (hR w1 h1) dZc hli oZm);have R2:Hid (∀w1,Below w.heap.size w w1→Calls Tryz.prog 86 #[.slice (some ⟨b,off,none⟩) len cap,.int .u64 24,.int .i64 8] w1 fun e w'=>e=.returned (.int .u64 (eOf zs))∧w1=w'):=hZz (fun w1 h1=>cY B _ len cap zs 24 8 w1 (hR w1 h1) dZc hli oZm);have R3:Hid (∀w1,Below w.heap.size w w1→Calls Tryz.prog 86 #[.slice (some ⟨b,off,none⟩) len cap,.int .u64 32,.int .i64 8] w1 fun e w'=>e=.returned (.int .u64 (sOf zs))∧w1=w'):=hZz (fun w1 h1=>cY B _ len cap zs 32 8 w1 (hR w1 h1) dZc hli oZm);have R4:Hid (∀w1,Below w.heap.size w w1→Calls Tryz.prog 86 #[.slice (some ⟨b,off,none⟩) len cap,.int .u64 56,.int .i64 2] w1 fun e w'=>e=.returned (.int .u64 (cOf zs))∧w1=w'):=hZz (fun w1 h1=>cY B _ len cap zs 56 2 w1 (hR w1 h1) dZc hli oZm);have RP:Hid (∀w1,Calls Tryz.prog 87 #[cU (kOf zs) (eOf zs) (sOf zs) (cOf zs)] w1 fun r w'=>(∃u,r=.returned (.tuple #[u,.int .i64 0])∧aI (enc (kOf zs) (eOf zs) (sOf zs) (cOf zs)) u w')∧Below w1.heap.size w1 w'):=hZz (fun w1=>rv _ _ _ _ w1 hv he.1 he.2 hs.1 hs.2);have RE:Hid (∀w1 g c,Below w.heap.size w w1→Bys w1 w1.heap.size (some ⟨g,0,none⟩) 64 (enc (kOf zs) (eOf zs) (sOf zs) (cOf zs))→Calls Tryz.prog 88 #[.slice (some ⟨g,0,none⟩) 64 c,.slice (some ⟨b,off,none⟩) 64 cap] w1 fun r w'=>r=.returned (.bool y)∧w1=w'):=hZz (fun w1 g c h1 hm=>by
  have:=rc _ _ _ _ 64 64 c cap _ _ w1 hm ((hR w1 h1).sub (p:=0) (n:=64) oZm);rw [hy] at this;exact this)
 obtain ⟨hk0,hk1⟩:=hk;obtain ⟨hc0,hc1⟩:=hc;have HBL:Hid (∀o,Below w.heap.size w (w.alloc o)):=hZz (fun o=>(Below.refl _ _).alloc (lZr _) o);have HEL:=hZz (dZ (kOf zs) (eOf zs) (sOf zs) (cOf zs));clear hb hv hR hy he hs;unfold cU at *;go_enter Tryz.func44,Tryz.ntmps44
 go_wp2_with (first | (go_at_call 86;with_reducible refine (R1.out _ (HBL.out _)).mono ?_;rintro r w' ⟨rfl,rfl⟩) | (go_at_call 86;with_reducible refine (R2.out _ (HBL.out _)).mono ?_;rintro r w' ⟨rfl,rfl⟩) | (go_at_call 86;with_reducible refine (R3.out _ (HBL.out _)).mono ?_;rintro r w' ⟨rfl,rfl⟩) | (go_at_call 86;with_reducible refine (R4.out _ (HBL.out _)).mono ?_;rintro r w' ⟨rfl,rfl⟩) | (go_at_call 87;refine Calls.mono (RP.out _) ?_));rintro r w2 ⟨⟨u,rfl,g,c,rfl,_,_,hm⟩,hb⟩;rw [HEL.out] at hm⊢;have hbb:Below w.heap.size w w2:=(((Below.refl _ _).alloc (lZr _) _).alloc (by simp) _).trans (hb.mono (by simp;omega));obtain ⟨q0,q1,q2,q3⟩:=(((Blk.new w _ _).alloc _).later hb).c4;obtain ⟨f0,f1,f2,f3⟩:=(((Blk.new w _ _).alloc _).later hb).f4;obtain ⟨p0,p1,p2,p3⟩:=((Blk.new (w.alloc _) _ _).later hb).c4;simp only [World.size_alloc] at p0 p1 p2 p3;have HM:=hZz hm;have HBB:=hZz hbb;clear hb hm hbb;cases y with
 | true=>
   go_wp2_with (go_at_call 88;refine (RE.out _ _ _ HBB.out HM.out).mono ?_;rintro r w' ⟨rfl,rfl⟩);refine bodyPost_ret (v:=.tuple #[.agg #[.int .i64 (kOf zs),.int .u64 (eOf zs),.int .u64 (sOf zs),.int .i64 (cOf zs)],.int .i64 0]) (by simp [results,Tryz.results44,go_sem,q0,q1,q2,q3]) rfl ⟨rfl,?_⟩;exact (((HBB.out.setCell (lZr _) _).setCell (lZr _) _).setCell (lZr _) _).setCell (lZr _) _
 | false=>
   go_wp2_with (go_at_call 88;refine (RE.out _ _ _ HBB.out HM.out).mono ?_;rintro r w' ⟨rfl,rfl⟩);refine bodyPost_ret (v:=.tuple #[.agg #[.int .i64 0,.int .u64 0,.int .u64 0,.int .i64 0],.int .i64 11]) (by simp [results,Tryz.results44,go_sem,q0,q1,q2,q3]) rfl ⟨rfl,?_⟩;exact (((HBB.out.setCell (lZr _) _).setCell (lZr _) _).setCell (lZr _) _).setCell (lZr _) _
theorem sW (B:Nat) (a:Option Addr) (len cap:Nat) (zs:List Int) (w:World) (hb:Bys w B a len zs) (hB:B≤w.heap.size) (hcap:len≤cap) (hcm:(cap:Int)≤9223372036854775807) :
 Calls Tryz.prog 44 #[.slice a len cap] w fun r w'=>r=.returned (jh zs)∧Below w.heap.size w w':=by
 have hz:=hb.1;unfold jh;by_cases h:zs.length<64
 ·rw [if_pos h];exact pt a len cap w oZm
 ·rw [if_neg h];cases hv:dY (kOf zs) (cOf zs) with
  | false=>
    have:dD zs=false:=by unfold dD;rw [hv];rfl
    rw [this];exact vz B a len cap zs w hb hB hcap hcm oZm hv
  | true=>
    have:dD zs=decide (enc (kOf zs) (eOf zs) (sOf zs) (cOf zs)=am zs 0 64):=by unfold dD;rw [hv];rfl
    exact ue B a len cap zs w hb hB hcap hcm oZm hv (dD zs) this.symm

theorem wE {zs:List Int} {k e s c er:Int} (h:jh zs=.tuple #[.agg #[.int .i64 k,.int .u64 e,.int .u64 s,.int .i64 c],.int .i64 er]) (B:Nat) (a:Option Addr) (len cap:Nat) (w:World) (hb:Bys w B a len zs) (hB:B≤w.heap.size) (hcap:len≤cap) (hcm:(cap:Int)≤9223372036854775807) :
 Calls Tryz.prog 44 #[.slice a len cap] w fun r w'=>r=.returned (.tuple #[.agg #[.int .i64 k,.int .u64 e,.int .u64 s,.int .i64 c],.int .i64 er])∧Below w.heap.size w w':=
 h▸sW B a len cap zs w hb hB hcap hcm
end Go.Proofs.YtclgbdfkdbbinaaGreat
