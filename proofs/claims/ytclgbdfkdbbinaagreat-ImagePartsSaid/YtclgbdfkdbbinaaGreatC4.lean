/-
  What is proved here: words and contracts, a part of those that the statement rests on (C4).
  Conditions: none but that the arguments are values of their types.
-/
import Derived.Test.YtclgbdfkdbbinaaGreatC1
import Derived.Test.YtclgbdfkdbbinaaGreatC2
import Derived.Test.YtclgbdfkdbbinaaGreatC3
import Derived.Laws.Bits64
import Derived.Laws.BitsAllLaws
set_option linter.unusedVariables false
set_option linter.unusedSimpArgs false
set_option maxRecDepth 100000
set_option maxHeartbeats 12800000
namespace Go.Proofs.YtclgbdfkdbbinaaGreat
open Go.RowKit
structure Sy where
 na:Int
 inf:Int
 ot:Int
 se:Int
 va:Int
 si:Int
structure Sy.Ok (s:Sy):Prop where
 na:0≤s.na∧s.na≤4294967295
 inf:0≤s.inf∧s.inf≤255
 ot:0≤s.ot∧s.ot≤255
 se:0≤s.se∧s.se≤65535
 va:0≤s.va∧s.va≤18446744073709551615
 si:0≤s.si∧s.si≤18446744073709551615
def Sy.val (s:Sy):Value:=.agg #[.int .u32 s.na,.int .u8 s.inf,.int .u8 s.ot,.int .u16 s.se,.int .u64 s.va,.int .u64 s.si]
def Sy.zero:Sy:=⟨0,0,0,0,0,0⟩
theorem Sy.zero_ok:Sy.zero.Ok:=by constructor<;>decide
structure Sy.At (w:World) (b o:Nat) (s:Sy):Prop where
 c0:w.cell? ⟨b,o,none⟩=some (.int .u32 s.na)
 c1:w.cell? ⟨b,o+1,none⟩=some (.int .u8 s.inf)
 c2:w.cell? ⟨b,o+2,none⟩=some (.int .u8 s.ot)
 c3:w.cell? ⟨b,o+3,none⟩=some (.int .u16 s.se)
 c4:w.cell? ⟨b,o+4,none⟩=some (.int .u64 s.va)
 c5:w.cell? ⟨b,o+5,none⟩=some (.int .u64 s.si)
theorem Sy.At.below {w w':World} {B b o:Nat} {s:Sy} (h:Sy.At w b o s) (hb:Below B w w') (hB:b<B):Sy.At w' b o s:=
 ⟨(hb.cell hB).trans h.c0,(hb.cell hB).trans h.c1,(hb.cell hB).trans h.c2,(hb.cell hB).trans h.c3,(hb.cell hB).trans h.c4,(hb.cell hB).trans h.c5⟩
theorem Sy.getD_mem {L:List Sy} {k:Nat} (h:k<L.length):L.getD k Sy.zero∈L:=by
 rw [List.getD_eq_getElem?_getD,List.getElem?_eq_getElem h];exact List.getElem_mem h
structure Sy.Sl (w:World) (B:Nat) (a:Option Addr) (len:Nat) (L:List Sy):Prop where
 hl:L.length=len
 hok:∀s∈L,s.Ok
 hc:0<len→∃b off,a=some ⟨b,off,none⟩∧b<B∧∀i,i<len→Sy.At w b (off+i*6) (L.getD i Sy.zero)
theorem Sy.Sl.empty (w:World) (B:Nat) (a:Option Addr):Sy.Sl w B a 0 []:=⟨rfl,fun _ h=>(by cases h),fun h=>absurd h (by omega)⟩
theorem Sy.Sl.okAt {w:World} {B:Nat} {a:Option Addr} {len:Nat} {L:List Sy} (h:Sy.Sl w B a len L) {i:Nat} (hi:i<len):(L.getD i Sy.zero).Ok:=
 h.hok _ (Sy.getD_mem (by have:=h.hl;omega))
theorem Sy.cs {w:World} {g:Nat} {v0 v1 v2 v3 v4 v5:Value} {t:TypeId} (h:Blk w g #[v0,v1,v2,v3,v4,v5] t) :
 w.cell? ⟨g,0,none⟩=some v0∧w.cell? ⟨g,1,none⟩=some v1∧w.cell? ⟨g,2,none⟩=some v2∧w.cell? ⟨g,3,none⟩=some v3∧w.cell? ⟨g,4,none⟩=some v4∧w.cell? ⟨g,5,none⟩=some v5:=
 ⟨h.cell 0,h.cell 1,h.cell 2,h.cell 3,h.cell 4,h.cell 5⟩
def Sy.flat (L:List Sy):List Value:=L.flatMap fun s=>[.int .u32 s.na,.int .u8 s.inf,.int .u8 s.ot,.int .u16 s.se,.int .u64 s.va,.int .u64 s.si]
theorem Sy.flat_snoc (L:List Sy) (s:Sy):Sy.flat (L++[s])=Sy.flat L++[.int .u32 s.na,.int .u8 s.inf,.int .u8 s.ot,.int .u16 s.se,.int .u64 s.va,.int .u64 s.si]:=by
 unfold Sy.flat;rw [List.flatMap_append];simp
theorem Sy.flat_len:∀L:List Sy,(Sy.flat L).length=L.length*6
 | []=>rfl
 | s :: L=>by
   have:=Sy.flat_len L;unfold Sy.flat at this⊢;rw [List.flatMap_cons,List.length_append,this];simp [Nat.add_mul];omega
theorem Sy.flat_at:∀(L:List Sy) (i:Nat),i<L.length→(Sy.flat L)[i*6]?=some (.int .u32 (L.getD i Sy.zero).na)∧(Sy.flat L)[i*6+1]?=some (.int .u8 (L.getD i Sy.zero).inf)∧(Sy.flat L)[i*6+2]?=some (.int .u8 (L.getD i Sy.zero).ot)∧(Sy.flat L)[i*6+3]?=some (.int .u16 (L.getD i Sy.zero).se)∧(Sy.flat L)[i*6+4]?=some (.int .u64 (L.getD i Sy.zero).va)∧(Sy.flat L)[i*6+5]?=some (.int .u64 (L.getD i Sy.zero).si)
 | [],i,h=>by simp at h
 | s :: L,0,_=>by simp [Sy.flat]
 | s :: L,i+1,h=>by
   have:=Sy.flat_at L i (by simpa using h);unfold Sy.flat at this⊢;rw [List.flatMap_cons];have e:∀j,([.int .u32 s.na,.int .u8 s.inf,.int .u8 s.ot,.int .u16 s.se,.int .u64 s.va,.int .u64 s.si]++L.flatMap (fun s=>[.int .u32 s.na,.int .u8 s.inf,.int .u8 s.ot,.int .u16 s.se,.int .u64 s.va,.int .u64 s.si]):List Value)[(i+1)*6+j]?=(L.flatMap (fun s=>[.int .u32 s.na,.int .u8 s.inf,.int .u8 s.ot,.int .u16 s.se,.int .u64 s.va,.int .u64 s.si]):List Value)[i*6+j]?:=fun j=>by
    rw [List.getElem?_append_right (by simp;omega)]
    congr 1
    simp;omega
   have e0:=e 0;simp only [Nat.add_zero] at e0;rw [e0,e 1,e 2,e 3,e 4,e 5];simpa using this
theorem Sy.Sl.own {w:World} {base:Nat} {e:TypeId} {a:Option Addr} {len cap:Nat} {L:List Sy} (hok:∀s∈L,s.Ok) (h:w.ownsRow base e 6 (.slice a len cap) len (Sy.flat L)):Sy.Sl w w.heap.size a len L:=by
 have hl:L.length=len:=by have:=h.1;rw [Sy.flat_len] at this;omega
 refine ⟨hl,hok,fun hp=>?_⟩;obtain ⟨g,rfl,hlt⟩:∃g,a=some ⟨g,0,none⟩∧g<w.heap.size:=by
  rcases h.2 with ⟨_,e0⟩ | ⟨g,c,cur,hv,_,hg,_⟩
  ·omega
  ·refine ⟨g,by injection hv,?_⟩;obtain ⟨hlt,_⟩:=Array.getElem?_eq_some_iff.1 hg;exact hlt
 refine ⟨g,0,rfl,hlt,fun i hi=>?_⟩;obtain ⟨f0,f1,f2,f3,f4,f5⟩:=Sy.flat_at L i (by omega);simp only [Nat.zero_add];exact ⟨(h.cellAt _ (by omega)).trans f0,(h.cellAt _ (by omega)).trans f1,(h.cellAt _ (by omega)).trans f2,(h.cellAt _ (by omega)).trans f3,(h.cellAt _ (by omega)).trans f4,(h.cellAt _ (by omega)).trans f5⟩
theorem Sy.own_below {w w':World} {base n:Nat} {e:TypeId} {v:Value} {xs:List Value} (h:w.ownsRow base e 6 v n xs) (hb:Below w.heap.size w w'):w'.ownsRow base e 6 v n xs:=
 h.kept (row:=none) ⟨hb.os,hb.tape,hb.output,hb.size,fun k hk _=>hb.block k hk⟩ (by cases v.ownBlock<;>simp)
theorem k6_piece_mid' {A B C:List Int} {p n:Nat} (hp:A.length=p) (hn:B.length=n):piece (A++(B++C)) p n=B:=by
 subst hp;subst hn;unfold piece;rw [List.drop_left,List.take_left]
def encY (s:Sy):List Int:=digs s.na 4++([s.inf,s.ot]++(digs s.se 2++(digs s.va 8++digs s.si 8)))
theorem encY_len (s:Sy):(encY s).length=24:=by simp only [encY,List.length_append,digs_len,List.length_cons,List.length_nil]
theorem encY_bd {s:Sy} (h:s.Ok):∀n∈encY s,0≤n∧n≤255:=by
 intro n hn;simp only [encY,List.mem_append,List.mem_cons,List.not_mem_nil,or_false] at hn;rcases hn with h1 | (rfl | rfl) | h1 | h1 | h1
 ·exact digs_bd _ _ n h1
 ·exact h.inf
 ·exact h.ot
 ·exact digs_bd _ _ n h1
 ·exact digs_bd _ _ n h1
 ·exact digs_bd _ _ n h1
def symAt (zs:List Int) (k:Nat):Sy:=⟨num (piece zs (24*k) 4),zs.getD (24*k+4) 0,zs.getD (24*k+5) 0,num (piece zs (24*k+6) 2),num (piece zs (24*k+8) 8),num (piece zs (24*k+16) 8)⟩
theorem getD_bd' {zs:List Int} (hb:∀n∈zs,0≤n∧n≤255) {i:Nat} (h:i<zs.length):0≤zs.getD i 0∧zs.getD i 0≤255:=by
 rw [List.getD_eq_getElem?_getD,List.getElem?_eq_getElem h];exact hb _ (List.getElem_mem h)
theorem symAt_ok {zs:List Int} (hb:∀n∈zs,0≤n∧n≤255) {k:Nat} (h:24*k+24≤zs.length):(symAt zs k).Ok:=by
 have h0:=num_piece_lt (p:=24*k) (k:=4) hb (by omega);have h3:=num_piece_lt (p:=24*k+6) (k:=2) hb (by omega);have h4:=num_piece_lt (p:=24*k+8) (k:=8) hb (by omega);have h5:=num_piece_lt (p:=24*k+16) (k:=8) hb (by omega);have h1:=getD_bd' (i:=24*k+4) hb (by omega);have h2:=getD_bd' (i:=24*k+5) hb (by omega);constructor<;>simp only [symAt]<;>omega
def k6_tabS (zs:List Int) (n:Nat):List Sy:=(List.range n).map (symAt zs)
theorem k6_tabS_len (zs:List Int) (n:Nat):(k6_tabS zs n).length=n:=by simp [k6_tabS]
theorem k6_tabS_succ (zs:List Int) (k:Nat):k6_tabS zs (k+1)=k6_tabS zs k++[symAt zs k]:=by simp [k6_tabS,List.range_succ]
theorem k6_tabS_ok {zs:List Int} {n:Nat} (hb:∀x∈zs,0≤x∧x≤255) (hl:24*n≤zs.length):∀s∈k6_tabS zs n,s.Ok:=by
 intro s hs;simp only [k6_tabS,List.mem_map,List.mem_range] at hs;obtain ⟨k,hk,rfl⟩:=hs;exact symAt_ok hb (by omega)
def tabY (zs:List Int):Int×List Sy:=if zs.length % 24=0 then (0,k6_tabS zs (zs.length / 24)) else (10,[])
theorem tabY_ok {zs:List Int} (hb:∀x∈zs,0≤x∧x≤255):∀s∈(tabY zs).2,s.Ok:=by
 unfold tabY;split
 ·exact k6_tabS_ok hb (by omega)
 ·intro s hs;cases hs
def k6_flatE (L:List Sy):List Int:=L.flatMap encY
theorem k6_flatE_len:∀L:List Sy,(k6_flatE L).length=24*L.length
 | []=>rfl
 | s :: L=>by
   have:=k6_flatE_len L;unfold k6_flatE at this⊢;rw [List.flatMap_cons,List.length_append,encY_len,this,List.length_cons];omega
theorem k6_getD_mid {A B C:List Int} {p j:Nat} (hp:A.length=p) (hj:j<B.length):(A++(B++C)).getD (p+j) 0=B.getD j 0:=by
 subst hp;rw [List.getD_eq_getElem?_getD,List.getElem?_append_right (by omega),List.getElem?_append_left (by omega),List.getD_eq_getElem?_getD]
 congr 2;omega
theorem symAt_mid (A C:List Int) (s:Sy) (h:s.Ok) (k:Nat) (hA:A.length=24*k):symAt (A++(encY s++C)) k=s:=by
 obtain ⟨⟨a0,a1⟩,⟨b0,b1⟩,⟨c0,c1⟩,⟨d0,d1⟩,⟨e0,e1⟩,⟨f0,f1⟩⟩:=h;obtain ⟨na,inf,ot,se,va,si⟩:=s;simp only at a0 a1 b0 b1 c0 c1 d0 d1 e0 e1 f0 f1;have E:A++(encY ⟨na,inf,ot,se,va,si⟩++C)=A++(digs na 4++([inf,ot]++(digs se 2++(digs va 8++(digs si 8++C))))):=by simp [encY]
 have E2:A++(encY ⟨na,inf,ot,se,va,si⟩++C)=(A++digs na 4)++([inf,ot]++(digs se 2++(digs va 8++(digs si 8++C)))):=by simp [encY]
 have E3:A++(encY ⟨na,inf,ot,se,va,si⟩++C)=(A++digs na 4++[inf,ot])++(digs se 2++(digs va 8++(digs si 8++C))):=by simp [encY]
 have E4:A++(encY ⟨na,inf,ot,se,va,si⟩++C)=(A++digs na 4++[inf,ot]++digs se 2)++(digs va 8++(digs si 8++C)):=by simp [encY]
 have E5:A++(encY ⟨na,inf,ot,se,va,si⟩++C)=(A++digs na 4++[inf,ot]++digs se 2++digs va 8)++(digs si 8++C):=by simp [encY]
 have l2:(A++digs na 4).length=24*k+4:=by simp [digs_len,hA]
 have l3:(A++digs na 4++[inf,ot]).length=24*k+6:=by simp [digs_len,hA]
 have l4:(A++digs na 4++[inf,ot]++digs se 2).length=24*k+8:=by simp [digs_len,hA]
 have l5:(A++digs na 4++[inf,ot]++digs se 2++digs va 8).length=24*k+16:=by simp [digs_len,hA]
 have g1:(A++(encY ⟨na,inf,ot,se,va,si⟩++C)).getD (24*k+4) 0=inf:=by rw [E2];exact k6_getD_mid (j:=0) l2 (by simp)
 have g2:(A++(encY ⟨na,inf,ot,se,va,si⟩++C)).getD (24*k+5) 0=ot:=by rw [E2];exact k6_getD_mid (j:=1) l2 (by simp)
 have p1:piece (A++(encY ⟨na,inf,ot,se,va,si⟩++C)) (24*k) 4=digs na 4:=by rw [E];exact k6_piece_mid' hA (digs_len _ _)
 have p3:piece (A++(encY ⟨na,inf,ot,se,va,si⟩++C)) (24*k+6) 2=digs se 2:=by rw [E3];exact k6_piece_mid' l3 (digs_len _ _)
 have p4:piece (A++(encY ⟨na,inf,ot,se,va,si⟩++C)) (24*k+8) 8=digs va 8:=by rw [E4];exact k6_piece_mid' l4 (digs_len _ _)
 have p5:piece (A++(encY ⟨na,inf,ot,se,va,si⟩++C)) (24*k+16) 8=digs si 8:=by rw [E5];exact k6_piece_mid' l5 (digs_len _ _)
 unfold symAt;rw [g1,g2,p1,p3,p4,p5,num_digs a0,num_digs d0,num_digs e0,num_digs f0];have q1:na % 256 ^ 4=na:=by omega
 have q2:se % 256 ^ 2=se:=by omega
 have q3:va % 256 ^ 8=va:=by omega
 have q4:si % 256 ^ 8=si:=by omega
 rw [q1,q2,q3,q4]
theorem symAt_flat {L:List Sy} {C:List Int} (h:∀s∈L,s.Ok) {k:Nat} (hk:k<L.length):symAt (k6_flatE L++C) k=L.getD k Sy.zero:=by
 have e:k6_flatE L++C=k6_flatE (L.take k)++(encY (L.getD k Sy.zero)++(k6_flatE (L.drop (k+1))++C)):=by
  have e1:L=L.take k++L.getD k Sy.zero :: L.drop (k+1):=by
   rw [List.getD_eq_getElem?_getD,List.getElem?_eq_getElem hk];simp
  conv=>lhs;rw [e1]
  unfold k6_flatE;rw [List.flatMap_append,List.flatMap_cons];simp only [List.append_assoc]
 rw [e];refine symAt_mid _ _ _ (h _ (Sy.getD_mem hk)) k ?_;rw [k6_flatE_len,List.length_take];omega
theorem tabS_flat {L:List Sy} {C:List Int} (h:∀s∈L,s.Ok):k6_tabS (k6_flatE L++C) L.length=L:=by
 apply List.ext_getElem (k6_tabS_len _ _)
 intro i h1 h2;have:=symAt_flat (C:=C) h h2;simp only [k6_tabS,List.getElem_map,List.getElem_range];rw [this,List.getD_eq_getElem?_getD,List.getElem?_eq_getElem h2];rfl
theorem tabY_flat {L:List Sy} (h:∀s∈L,s.Ok):tabY (k6_flatE L)=(0,L):=by
 have:=tabS_flat (C:=[]) h;rw [List.append_nil] at this;unfold tabY;rw [k6_flatE_len,if_pos (by omega),show 24*L.length / 24=L.length by omega,this]
def badY (k:Nat) (s:Sy):Bool:=
 if k=0 then decide (¬(s.na=0∧s.inf=0∧s.ot=0∧s.se=0∧s.va=0∧s.si=0))
 else decide (2<s.inf / 16∨¬(s.inf % 16=0∨s.inf % 16=1∨s.inf % 16=2∨s.inf % 16=6)∨s.ot≠0∨1<s.se∨s.na=0∨(s.se=0∧(s.va≠0∨s.si≠0∨s.inf / 16=0)))
def checkY (L:List Sy):Int:=if (List.range L.length).any (fun k=>badY k (L.getD k Sy.zero)) then 11 else 0
theorem checkY_bad {L:List Sy} {k:Nat} (hk:k<L.length) (h:badY k (L.getD k Sy.zero)=true):checkY L=11:=by
 unfold checkY;rw [if_pos];exact List.any_eq_true.2 ⟨k,List.mem_range.2 hk,h⟩
theorem checkY_good {L:List Sy} (h:∀k,k<L.length→badY k (L.getD k Sy.zero)=false):checkY L=0:=by
 unfold checkY;rw [if_neg];intro hh;obtain ⟨k,hk,hb⟩:=List.any_eq_true.1 hh;rw [h k (List.mem_range.1 hk)] at hb;cases hb
theorem bad_upto {L:List Sy} {k:Nat} (h:∀j,j<k→badY j (L.getD j Sy.zero)=false) (hk:badY k (L.getD k Sy.zero)=false):∀j,j<k+1→badY j (L.getD j Sy.zero)=false:=by
 intro j hj;by_cases e:j=k
 ·subst e;exact hk
 ·exact h j (by omega)
structure Rl where
 of:Int
 ty:Int
 sy:Int
 ad:Int
structure Rl.Ok (s:Rl):Prop where
 of:0≤s.of∧s.of≤18446744073709551615
 ty:0≤s.ty∧s.ty≤4294967295
 sy:0≤s.sy∧s.sy≤4294967295
 ad:-9223372036854775808≤s.ad∧s.ad≤9223372036854775807
def Rl.val (s:Rl):Value:=.agg #[.int .u64 s.of,.int .u32 s.ty,.int .u32 s.sy,.int .i64 s.ad]
def Rl.zero:Rl:=⟨0,0,0,0⟩
structure Rl.At (w:World) (b o:Nat) (s:Rl):Prop where
 c0:w.cell? ⟨b,o,none⟩=some (.int .u64 s.of)
 c1:w.cell? ⟨b,o+1,none⟩=some (.int .u32 s.ty)
 c2:w.cell? ⟨b,o+2,none⟩=some (.int .u32 s.sy)
 c3:w.cell? ⟨b,o+3,none⟩=some (.int .i64 s.ad)
theorem Rl.At.below {w w':World} {B b o:Nat} {s:Rl} (h:Rl.At w b o s) (hb:Below B w w') (hB:b<B):Rl.At w' b o s:=
 ⟨(hb.cell hB).trans h.c0,(hb.cell hB).trans h.c1,(hb.cell hB).trans h.c2,(hb.cell hB).trans h.c3⟩
theorem Rl.getD_mem {L:List Rl} {k:Nat} (h:k<L.length):L.getD k Rl.zero∈L:=by
 rw [List.getD_eq_getElem?_getD,List.getElem?_eq_getElem h];exact List.getElem_mem h
structure Rl.Sl (w:World) (B:Nat) (a:Option Addr) (len:Nat) (L:List Rl):Prop where
 hl:L.length=len
 hok:∀s∈L,s.Ok
 hc:0<len→∃b off,a=some ⟨b,off,none⟩∧b<B∧∀i,i<len→Rl.At w b (off+i*4) (L.getD i Rl.zero)
theorem Rl.Sl.empty (w:World) (B:Nat) (a:Option Addr):Rl.Sl w B a 0 []:=⟨rfl,fun _ h=>(by cases h),fun h=>absurd h (by omega)⟩
theorem Rl.Sl.okAt {w:World} {B:Nat} {a:Option Addr} {len:Nat} {L:List Rl} (h:Rl.Sl w B a len L) {i:Nat} (hi:i<len):(L.getD i Rl.zero).Ok:=
 h.hok _ (Rl.getD_mem (by have:=h.hl;omega))
theorem Rl.cs {w:World} {g:Nat} {v0 v1 v2 v3:Value} {t:TypeId} (h:Blk w g #[v0,v1,v2,v3] t) :
 w.cell? ⟨g,0,none⟩=some v0∧w.cell? ⟨g,1,none⟩=some v1∧w.cell? ⟨g,2,none⟩=some v2∧w.cell? ⟨g,3,none⟩=some v3:=
 ⟨h.cell 0,h.cell 1,h.cell 2,h.cell 3⟩
def Rl.flat (L:List Rl):List Value:=L.flatMap fun s=>[.int .u64 s.of,.int .u32 s.ty,.int .u32 s.sy,.int .i64 s.ad]
theorem Rl.flat_snoc (L:List Rl) (s:Rl):Rl.flat (L++[s])=Rl.flat L++[.int .u64 s.of,.int .u32 s.ty,.int .u32 s.sy,.int .i64 s.ad]:=by
 unfold Rl.flat;rw [List.flatMap_append];simp
theorem Rl.flat_len:∀L:List Rl,(Rl.flat L).length=L.length*4
 | []=>rfl
 | s :: L=>by
   have:=Rl.flat_len L;unfold Rl.flat at this⊢;rw [List.flatMap_cons,List.length_append,this];simp [Nat.add_mul];omega
theorem Rl.flat_at:∀(L:List Rl) (i:Nat),i<L.length→(Rl.flat L)[i*4]?=some (.int .u64 (L.getD i Rl.zero).of)∧(Rl.flat L)[i*4+1]?=some (.int .u32 (L.getD i Rl.zero).ty)∧(Rl.flat L)[i*4+2]?=some (.int .u32 (L.getD i Rl.zero).sy)∧(Rl.flat L)[i*4+3]?=some (.int .i64 (L.getD i Rl.zero).ad)
 | [],i,h=>by simp at h
 | s :: L,0,_=>by simp [Rl.flat]
 | s :: L,i+1,h=>by
   have:=Rl.flat_at L i (by simpa using h);unfold Rl.flat at this⊢;rw [List.flatMap_cons];have e:∀j,([.int .u64 s.of,.int .u32 s.ty,.int .u32 s.sy,.int .i64 s.ad]++L.flatMap (fun s=>[.int .u64 s.of,.int .u32 s.ty,.int .u32 s.sy,.int .i64 s.ad]):List Value)[(i+1)*4+j]?=(L.flatMap (fun s=>[.int .u64 s.of,.int .u32 s.ty,.int .u32 s.sy,.int .i64 s.ad]):List Value)[i*4+j]?:=fun j=>by
    rw [List.getElem?_append_right (by simp;omega)]
    congr 1
    simp;omega
   have e0:=e 0;simp only [Nat.add_zero] at e0;rw [e0,e 1,e 2,e 3];simpa using this
theorem Rl.Sl.own {w:World} {base:Nat} {e:TypeId} {a:Option Addr} {len cap:Nat} {L:List Rl} (hok:∀s∈L,s.Ok) (h:w.ownsRow base e 4 (.slice a len cap) len (Rl.flat L)):Rl.Sl w w.heap.size a len L:=by
 have hl:L.length=len:=by have:=h.1;rw [Rl.flat_len] at this;omega
 refine ⟨hl,hok,fun hp=>?_⟩;obtain ⟨g,rfl,hlt⟩:∃g,a=some ⟨g,0,none⟩∧g<w.heap.size:=by
  rcases h.2 with ⟨_,e0⟩ | ⟨g,c,cur,hv,_,hg,_⟩
  ·omega
  ·refine ⟨g,by injection hv,?_⟩;obtain ⟨hlt,_⟩:=Array.getElem?_eq_some_iff.1 hg;exact hlt
 refine ⟨g,0,rfl,hlt,fun i hi=>?_⟩;obtain ⟨f0,f1,f2,f3⟩:=Rl.flat_at L i (by omega);simp only [Nat.zero_add];exact ⟨(h.cellAt _ (by omega)).trans f0,(h.cellAt _ (by omega)).trans f1,(h.cellAt _ (by omega)).trans f2,(h.cellAt _ (by omega)).trans f3⟩
theorem Rl.own_below {w w':World} {base n:Nat} {e:TypeId} {v:Value} {xs:List Value} (h:w.ownsRow base e 4 v n xs) (hb:Below w.heap.size w w'):w'.ownsRow base e 4 v n xs:=
 h.kept (row:=none) ⟨hb.os,hb.tape,hb.output,hb.size,fun k hk _=>hb.block k hk⟩ (by cases v.ownBlock<;>simp)
def infoL (s:Rl):Int:=s.ty+s.sy*4294967296
def encL (s:Rl):List Int:=digs s.of 8++(digs (infoL s) 8++digs (IntKind.u64.wrap s.ad) 8)
theorem encL_len (s:Rl):(encL s).length=24:=by simp only [encL,List.length_append,digs_len]
theorem encL_bd (s:Rl):∀n∈encL s,0≤n∧n≤255:=by
 intro n hn;simp only [encL,List.mem_append] at hn;rcases hn with h | h | h;all_goals exact digs_bd _ _ n h
def relAt (zs:List Int) (k:Nat):Rl:=⟨num (piece zs (24*k) 8),num (piece zs (24*k+8) 8) % 4294967296,num (piece zs (24*k+8) 8) / 4294967296,IntKind.i64.wrap (num (piece zs (24*k+16) 8))⟩
theorem relAt_ok {zs:List Int} (hb:∀n∈zs,0≤n∧n≤255) {k:Nat} (h:24*k+24≤zs.length):(relAt zs k).Ok:=by
 have h0:=num_piece_lt (p:=24*k) (k:=8) hb (by omega);have h3:=num_piece_lt (p:=24*k+8) (k:=8) hb (by omega);have h4:=num_piece_lt (p:=24*k+16) (k:=8) hb (by omega);constructor<;>simp only [relAt]
 ·omega
 ·omega
 ·omega
 ·rw [IntKind.wrap_i64];omega
def k7_tabR (zs:List Int) (n:Nat):List Rl:=(List.range n).map (relAt zs)
theorem tabR_len (zs:List Int) (n:Nat):(k7_tabR zs n).length=n:=by simp [k7_tabR]
theorem tabR_succ (zs:List Int) (k:Nat):k7_tabR zs (k+1)=k7_tabR zs k++[relAt zs k]:=by simp [k7_tabR,List.range_succ]
theorem k7_tabR_ok {zs:List Int} {n:Nat} (hb:∀x∈zs,0≤x∧x≤255) (hl:24*n≤zs.length):∀s∈k7_tabR zs n,s.Ok:=by
 intro s hs;simp only [k7_tabR,List.mem_map,List.mem_range] at hs;obtain ⟨k,hk,rfl⟩:=hs;exact relAt_ok hb (by omega)
def tabL (zs:List Int):Int×List Rl:=if zs.length % 24=0 then (0,k7_tabR zs (zs.length / 24)) else (10,[])
theorem tabL_ok {zs:List Int} (hb:∀x∈zs,0≤x∧x≤255):∀s∈(tabL zs).2,s.Ok:=by
 unfold tabL;split
 ·exact k7_tabR_ok hb (by omega)
 ·intro s hs;cases hs
def knownL (t:Int):Bool:=decide (t=0∨t=1∨t=6∨t=7∨t=8∨t=16∨t=17∨t=18)
def errL (s:Rl) (n:Int):Int:=
 if knownL s.ty=false then 33
 else if 0<s.sy∧(n<0∨n≤s.sy) then 10
 else if ((s.ty=0∨s.ty=8)∧s.sy≠0)∨(¬(s.ty=0∨s.ty=8)∧s.sy=0) then 11
 else 0
def checkL:List Rl→Int→Int
 | [],_=>0
 | s :: L,n=>if errL s n=0 then checkL L n else errL s n
theorem checkL_good {n:Int}:∀{L:List Rl},(∀k,k<L.length→errL (L.getD k Rl.zero) n=0)→checkL L n=0
 | [],_=>rfl
 | s :: L,h=>by
   have h0:errL s n=0:=h 0 (by simp);unfold checkL;rw [if_pos h0];exact checkL_good fun k hk=>h (k+1) (by simpa using hk)
theorem checkL_bad {n:Int}:∀{L:List Rl} {k:Nat},k<L.length→(∀j,j<k→errL (L.getD j Rl.zero) n=0)→errL (L.getD k Rl.zero) n≠0→checkL L n=errL (L.getD k Rl.zero) n
 | [],k,hk,_,_=>by simp at hk
 | s :: L,0,_,_,h=>by
   have h':errL s n≠0:=h;unfold checkL;rw [if_neg h'];rfl
 | s :: L,k+1,hk,h0,h=>by
   have h1:errL s n=0:=h0 0 (by omega);unfold checkL;rw [if_pos h1];exact checkL_bad (L:=L) (k:=k) (by simpa using hk) (fun j hj=>h0 (j+1) (by omega)) h
theorem good_upto {L:List Rl} {n:Int} {k:Nat} (h:∀j,j<k→errL (L.getD j Rl.zero) n=0) (hk:errL (L.getD k Rl.zero) n=0):∀j,j<k+1→errL (L.getD j Rl.zero) n=0:=by
 intro j hj;by_cases e:j=k
 ·subst e;exact hk
 ·exact h j (by omega)
theorem k3_piece_mid (A B C:List Int):piece (A++(B++C)) A.length B.length=B:=by
 unfold piece;rw [List.drop_left,List.take_left]
def hd0:List Int:=[127,69,76,70,2,1,1,0,0,0,0,0,0,0,0,0]
def enc (k e s c:Int):List Int:=
 hd0++(digs k 2++(digs 19823 2++(digs 1 4++(digs e 8++(digs s 8++(digs 0 8++(digs 0 4++(digs 64 2++(digs 56 2++(digs c 2++(digs 0 2++(digs 0 2++digs 0 2))))))))))))
theorem enc_len (k e s c:Int):(enc k e s c).length=64:=by
 simp only [enc,List.length_append,digs_len];rfl
theorem enc_bd (k e s c:Int):∀n∈enc k e s c,0≤n∧n≤255:=by
 intro n hn;simp only [enc,List.mem_append] at hn;rcases hn with h | h | h | h | h | h | h | h | h | h | h | h | h | h
 ·revert n;decide
 all_goals exact digs_bd _ _ n h
theorem enc_kind (k e s c:Int):piece (enc k e s c) 16 2=digs k 2:=by
 have:=k3_piece_mid hd0 (digs k 2) (digs 19823 2++(digs 1 4++(digs e 8++(digs s 8++(digs 0 8++(digs 0 4++(digs 64 2++(digs 56 2++(digs c 2++(digs 0 2++(digs 0 2++digs 0 2)))))))))))
 rwa [digs_len] at this
theorem enc_entry (k e s c:Int):piece (enc k e s c) 24 8=digs e 8:=by
 have:=k3_piece_mid (hd0++(digs k 2++(digs 19823 2++digs 1 4))) (digs e 8) (digs s 8++(digs 0 8++(digs 0 4++(digs 64 2++(digs 56 2++(digs c 2++(digs 0 2++(digs 0 2++digs 0 2))))))));simp only [List.append_assoc,List.length_append,digs_len] at this;exact this
theorem enc_segs (k e s c:Int):piece (enc k e s c) 32 8=digs s 8:=by
 have:=k3_piece_mid (hd0++(digs k 2++(digs 19823 2++(digs 1 4++digs e 8)))) (digs s 8) (digs 0 8++(digs 0 4++(digs 64 2++(digs 56 2++(digs c 2++(digs 0 2++(digs 0 2++digs 0 2)))))));simp only [List.append_assoc,List.length_append,digs_len] at this;exact this
theorem enc_count (k e s c:Int):piece (enc k e s c) 56 2=digs c 2:=by
 have:=k3_piece_mid (hd0++(digs k 2++(digs 19823 2++(digs 1 4++(digs e 8++(digs s 8++(digs 0 8++(digs 0 4++(digs 64 2++digs 56 2))))))))) (digs c 2) (digs 0 2++(digs 0 2++digs 0 2));simp only [List.append_assoc,List.length_append,digs_len] at this;exact this
def validB (k c:Int):Bool:=decide (2≤k) && (decide (k≤4) && (decide (0≤c) && decide (c≤64)))
theorem validB_iff {k c:Int}:validB k c=true↔2≤k∧k≤4∧0≤c∧c≤64:=by simp [validB]
def kOf (zs:List Int):Int:=num (piece zs 16 2)
def eOf (zs:List Int):Int:=num (piece zs 24 8)
def sOf (zs:List Int):Int:=num (piece zs 32 8)
def cOf (zs:List Int):Int:=num (piece zs 56 2)
def isHead (zs:List Int):Bool:=validB (kOf zs) (cOf zs) && decide (enc (kOf zs) (eOf zs) (sOf zs) (cOf zs)=piece zs 0 64)
theorem k3_piece_app {A B:List Int} {p n:Nat} (h:p+n≤A.length):piece (A++B) p n=piece A p n:=by
 unfold piece;rw [List.drop_append_of_le_length (by omega),List.take_append_of_le_length (by rw [List.length_drop];omega)]
theorem k3_piece_all {A:List Int} {n:Nat} (h:A.length=n):piece A 0 n=A:=by
 unfold piece;rw [List.drop_zero,List.take_of_length_le (by omega)]
theorem head_put {k e s c:Int} (h:validB k c=true) (e0:0≤e) (e1:e≤18446744073709551615) (s0:0≤s) (s1:s≤18446744073709551615) (more:List Int) :
 kOf (enc k e s c++more)=k∧eOf (enc k e s c++more)=e∧sOf (enc k e s c++more)=s∧cOf (enc k e s c++more)=c∧isHead (enc k e s c++more)=true:=by
 have hl:=enc_len k e s c;obtain ⟨k0,k1,c0,c1⟩:=validB_iff.1 h;have hk:kOf (enc k e s c++more)=k:=by
  unfold kOf;rw [k3_piece_app (by omega),enc_kind,num_digs (by omega)];omega
 have he:eOf (enc k e s c++more)=e:=by
  unfold eOf;rw [k3_piece_app (by omega),enc_entry,num_digs (by omega)];omega
 have hs:sOf (enc k e s c++more)=s:=by
  unfold sOf;rw [k3_piece_app (by omega),enc_segs,num_digs (by omega)];omega
 have hc:cOf (enc k e s c++more)=c:=by
  unfold cOf;rw [k3_piece_app (by omega),enc_count,num_digs (by omega)];omega
 refine ⟨hk,he,hs,hc,?_⟩;unfold isHead;rw [hk,he,hs,hc,h,k3_piece_app (by omega),k3_piece_all hl];simp
theorem kOf_bd {zs:List Int} (hb:∀n∈zs,0≤n∧n≤255) (h:64≤zs.length):0≤kOf zs∧kOf zs≤65535:=by
 have:=num_piece_lt (p:=16) (k:=2) hb (by omega);unfold kOf;omega
theorem cOf_bd {zs:List Int} (hb:∀n∈zs,0≤n∧n≤255) (h:64≤zs.length):0≤cOf zs∧cOf zs≤65535:=by
 have:=num_piece_lt (p:=56) (k:=2) hb (by omega);unfold cOf;omega
theorem eOf_bd {zs:List Int} (hb:∀n∈zs,0≤n∧n≤255) (h:64≤zs.length):0≤eOf zs∧eOf zs≤18446744073709551615:=by
 have:=num_piece_lt (p:=24) (k:=8) hb (by omega);unfold eOf;omega
theorem sOf_bd {zs:List Int} (hb:∀n∈zs,0≤n∧n≤255) (h:64≤zs.length):0≤sOf zs∧sOf zs≤18446744073709551615:=by
 have:=num_piece_lt (p:=32) (k:=8) hb (by omega);unfold sOf;omega
def headV (k e s c:Int):Value:=.agg #[.int .i64 k,.int .u64 e,.int .u64 s,.int .i64 c]
def k3_getV (zs:List Int):Value:=
 if zs.length<64 then .tuple #[headV 0 0 0 0,.int .i64 10]
 else if isHead zs then .tuple #[headV (kOf zs) (eOf zs) (sOf zs) (cOf zs),.int .i64 0]
 else .tuple #[headV 0 0 0 0,.int .i64 11]
def fz:List Int→Option Nat
 | []=>none
 | c :: r=>if c=0 then some 0 else (fz r).map (·+1)
theorem fz_some:∀{zs:List Int} {k:Nat},fz zs=some k→k2_FirstZ zs k
 | [],k,h=>by simp [fz] at h
 | c :: r,k,h=>by
   unfold fz at h;by_cases e:c=0
   ·rw [if_pos e] at h;injection h with h;subst h;exact ⟨by simp,by rw [e];rfl,fun i hi=>absurd hi (by omega)⟩
   ·rw [if_neg e] at h;cases hr:fz r with
    | none=>rw [hr] at h;simp at h
    | some j=>
      rw [hr] at h;simp only [Option.map_some,Option.some.injEq] at h;subst h;obtain ⟨h1,h2,h3⟩:=fz_some hr;refine ⟨by simp;omega,h2,fun i hi=>?_⟩;cases i with
      | zero=>exact e
      | succ i=>exact h3 i (by omega)
theorem fz_none:∀{zs:List Int},fz zs=none→k2_NoZ zs
 | [],_=>fun i hi=>by simp at hi
 | c :: r,h=>by
   unfold fz at h;by_cases e:c=0
   ·rw [if_pos e] at h;cases h
   ·rw [if_neg e] at h;cases hr:fz r with
    | some j=>rw [hr] at h;simp at h
    | none=>
      have ih:=fz_none hr;intro i hi;cases i with
      | zero=>exact e
      | succ i=>exact ih i (by simpa using hi)
def atN (t:List Int) (p:Int):Int×ByteArray:=
 if (t.length:Int)≤p then (10,.empty)
 else match fz (piece t p.toNat (t.length-p.toNat)) with
  | some k=>(0,strOfNums (piece t p.toNat k))
  | none=>(11,.empty)
def needI (t:List Int):List Int→Int×List ByteArray
 | []=>(0,[])
 | p :: ps=>if (atN t p).1≠0 then ((atN t p).1,[]) else if (atN t p).2=.empty then (11,[]) else ((needI t ps).1,(atN t p).2 :: (needI t ps).2)
def namesI (t:List Int):List Sy→Int×List ByteArray
 | []=>(0,[])
 | s :: r=>if (atN t s.na).1≠0 then ((atN t s.na).1,[]) else ((namesI t r).1,(atN t s.na).2 :: (namesI t r).2)
def placeI (L:List Sg) (addr size:Int):Int×Int:=
 if size=0 then (40,0) else match L.find? (placeB addr size) with
  | none=>(40,0)
  | some s=>(0,placedS s addr)
theorem placeV_eq (L:List Sg) (addr size:Int):placeV L addr size=.tuple #[.int .u64 (placeI L addr size).2,.int .i64 (placeI L addr size).1]:=by
 unfold placeV placeI;split
 ·rfl
 ·cases L.find? (placeB addr size)<;>rfl
def cutI (zs:List Int) (p s:Int):Int×List Int:=if (zs.length:Int)<p+s then (10,[]) else (0,piece zs p.toNat s.toNat)
def bytesI (L:List Sg) (zs:List Int) (addr size:Int):Int×List Int:=
 if (placeI L addr size).1≠0 then ((placeI L addr size).1,[]) else cutI zs (placeI L addr size).2 size
structure Na where
 so:ByteArray
 nd:List ByteArray
 nm:List ByteArray
 sy:List Sy
 rl:List Rl
def na0:Na:=⟨.empty,[],[],[],[]⟩
def relaI (L:List Sg) (zs V:List Int) (so:ByteArray) (nd nm:List ByteArray) (sy:List Sy):Int×Na:=
 if 65536<V.getD 6 0 then (13,na0)
 else if V.getD 6 0≤0 then (0,⟨so,nd,nm,sy,[]⟩)
 else if (bytesI L zs (V.getD 5 0) (V.getD 6 0)).1≠0 then ((bytesI L zs (V.getD 5 0) (V.getD 6 0)).1,na0)
 else if (tabL (bytesI L zs (V.getD 5 0) (V.getD 6 0)).2).1≠0 then ((tabL (bytesI L zs (V.getD 5 0) (V.getD 6 0)).2).1,na0)
 else (checkL (tabL (bytesI L zs (V.getD 5 0) (V.getD 6 0)).2).2 sy.length,⟨so,nd,nm,sy,(tabL (bytesI L zs (V.getD 5 0) (V.getD 6 0)).2).2⟩)
def symsI (L:List Sg) (zs V t:List Int) (so:ByteArray) (nd:List ByteArray):Int×Na:=
 if 1024<V.getD 4 0 then (13,na0)
 else if V.getD 4 0≤0 then relaI L zs V so nd [] []
 else if (bytesI L zs (V.getD 3 0) (24*V.getD 4 0)).1≠0 then ((bytesI L zs (V.getD 3 0) (24*V.getD 4 0)).1,na0)
 else if checkY (tabY (bytesI L zs (V.getD 3 0) (24*V.getD 4 0)).2).2≠0 then (11,na0)
 else if (namesI t (tabY (bytesI L zs (V.getD 3 0) (24*V.getD 4 0)).2).2).1≠0 then ((namesI t (tabY (bytesI L zs (V.getD 3 0) (24*V.getD 4 0)).2).2).1,na0)
 else relaI L zs V so nd (namesI t (tabY (bytesI L zs (V.getD 3 0) (24*V.getD 4 0)).2).2).2 (tabY (bytesI L zs (V.getD 3 0) (24*V.getD 4 0)).2).2
def needsI (L:List Sg) (zs V N t:List Int) (so:ByteArray):Int×Na:=
 if (needI t N).1≠0 then ((needI t N).1,na0) else symsI L zs V t so (needI t N).2
def sonI (L:List Sg) (zs V N t:List Int):Int×Na:=
 if V.getD 0 0=0 then needsI L zs V N t .empty
 else if (atN t (V.getD 0 0)).1≠0 then ((atN t (V.getD 0 0)).1,na0) else needsI L zs V N t (atN t (V.getD 0 0)).2
def entsI (L:List Sg) (zs V N:List Int):Int×Na:=
 if (bytesI L zs (V.getD 1 0) (V.getD 2 0)).1≠0 then ((bytesI L zs (V.getD 1 0) (V.getD 2 0)).1,na0)
 else if chk (bytesI L zs (V.getD 1 0) (V.getD 2 0)).2≠0 then (11,na0)
 else sonI L zs V N (bytesI L zs (V.getD 1 0) (V.getD 2 0)).2
def namedI (L:List Sg) (zs:List Int) (s:Sg):Int×Na:=
 if (getDy (cutI zs s.ot s.fi).2).1≠0 then ((getDy (cutI zs s.ot s.fi).2).1,na0)
 else entsI L zs (getDy (cutI zs s.ot s.fi).2).2.v (getDy (cutI zs s.ot s.fi).2).2.nd
def inI (r:Rl) (s:Sg):Bool:=decide (s.ty=1∧s.va≤r.of∧r.of<IntKind.u64.wrap (s.va+s.me)∧8≤IntKind.u64.wrap (IntKind.u64.wrap (s.va+s.me)-r.of))
def heldR (L:List Sg) (r:Rl):Bool:=decide (r.ty=0) || L.any (inI r)
def symE (t:Option Sg) (s:Sy):Int:=
 if s.se=0 then 0
 else if s.inf % 16=6 then (match t with
  | none=>11
  | some g=>if g.me<s.va then 11 else 0)
 else if 4294967296<s.va then 13 else 0
def symsE (t:Option Sg):List Sy→Int
 | []=>0
 | s :: r=>if symE t s≠0 then symE t s else symsE t r
def heldI (L:List Sg) (sy:List Sy) (rl:List Rl):Int:=if rl.any (fun r=>!heldR L r) then 40 else symsE (L.find? (kindB 7)) sy
structure Im where
 k:Int
 e:Int
 s:Int
 c:Int
 sg:List Sg
 so:ByteArray
 nd:List ByteArray
 nm:List ByteArray
 sy:List Sy
 rl:List Rl
 zs:List Int
def im0:Im:=⟨0,0,0,0,[],.empty,[],[],[],[],[]⟩
def imaI (zs:List Int) (k e s c:Int) (L:List Sg):Int×Im:=
 if (match L.find? (kindB 2) with
     | none=>((0,na0):Int×Na)
     | some d=>namedI L zs d).1≠0 then ((match L.find? (kindB 2) with
     | none=>((0,na0):Int×Na)
     | some d=>namedI L zs d).1,im0)
 else
  let x:=(match L.find? (kindB 2) with
   | none=>((0,na0):Int×Na)
   | some d=>namedI L zs d).2
  if heldI L x.sy x.rl≠0 then (heldI L x.sy x.rl,im0) else (0,⟨k,e,s,c,L,x.so,x.nd,x.nm,x.sy,x.rl,zs⟩)
def parseI (zs:List Int):Int×Im:=
 if 65536<zs.length then (13,im0)
 else if zs.length<64 then (10,im0)
 else if isHead zs=false then (11,im0)
 else if kOf zs=4 then (11,im0)
 else if (k4_tabR zs (sOf zs) (cOf zs)).1≠0 then ((k4_tabR zs (sOf zs) (cOf zs)).1,im0)
 else if checkS (k4_tabR zs (sOf zs) (cOf zs)).2 zs.length≠0 then (checkS (k4_tabR zs (sOf zs) (cOf zs)).2 zs.length,im0)
 else if (k4_tabR zs (sOf zs) (cOf zs)).2.find? (kindB 1)=none then (11,im0)
 else imaI zs (kOf zs) (eOf zs) (sOf zs) (cOf zs) (k4_tabR zs (sOf zs) (cOf zs)).2
theorem at_ok (B:Nat) (a:Option Addr) (len cap:Nat) (zs:List Int) (p k:Nat) (w:World) (hb:Bys w B a len zs) (hcap:len≤cap) (hcm:(cap:Int)≤9223372036854775807) (hp:p<len) (hz:k2_FirstZ (piece zs p (len-p)) k) :
 Calls Tryz.prog 102 #[.slice a len cap,.int .u64 p] w fun e w'=>e=.returned (.tuple #[.string (strOfNums (piece zs p k)),.int .i64 0])∧w=w':=by
 obtain ⟨b,off,rfl,_,_⟩:=hb.2.2 (by omega);have HS:=Lib.hid (hb.sub (p:=p) (n:=len-p) (by omega));have HI:=Lib.hid (k2_idx_some HS.out.2.1 hz);have hk:k<len-p:=by have:=hz.1;rw [HS.out.1] at this;exact this
 have hpi:(p:Int)<(len:Int):=by omega
 have hkc:k≤cap-p:=by omega
 have hconv:=(hb.sub (p:=p) (n:=k) (by omega)).conv (cap-p);clear hb hz;go_enter Tryz.func102,Tryz.ntmps102
 go_wp2_with (go_at_call 142;refine (k2_bidx_any _ _ _ _ _ _ _ HS.out (by omega) HI.out).mono ?_;rintro e w' ⟨rfl,rfl⟩);go_ret2;exact ⟨rfl,rfl⟩
structure Sh where
 a:Option Addr
 n:Nat
 c:Nat
def Sh.zero:Sh:=⟨none,0,0⟩
structure Sh.Ok (h:Sh):Prop where
 le:h.n≤h.c
 max:(h.c:Int)≤9223372036854775807
theorem Sh.zero_ok:Sh.zero.Ok:=⟨Nat.le_refl _,by decide⟩
structure Iv where
 k:Int
 e:Int
 s:Int
 c:Int
 sg:Sh
 so:ByteArray
 nd:Sh
 nm:Sh
 sy:Sh
 rl:Sh
 zs:Sh
def Iv.val (x:Iv):Value:=.agg #[.int .i64 x.k,.int .u64 x.e,.int .u64 x.s,.int .i64 x.c,.slice x.sg.a x.sg.n x.sg.c,.string x.so,.slice x.nd.a x.nd.n x.nd.c,.slice x.nm.a x.nm.n x.nm.c,.slice x.sy.a x.sy.n x.sy.c,.slice x.rl.a x.rl.n x.rl.c,.slice x.zs.a x.zs.n x.zs.c]
def iv0:Iv:=⟨0,0,0,0,Sh.zero,.empty,Sh.zero,Sh.zero,Sh.zero,Sh.zero,Sh.zero⟩
structure Iv.Is (w:World) (B:Nat) (x:Iv) (m:Im):Prop where
 k:x.k=m.k
 e:x.e=m.e
 s:x.s=m.s
 c:x.c=m.c
 so:x.so=m.so
 sg:Sgs w B x.sg.a x.sg.n m.sg
 nd:Strs w B x.nd.a x.nd.n m.nd
 nm:Strs w B x.nm.a x.nm.n m.nm
 sy:Sy.Sl w B x.sy.a x.sy.n m.sy
 rl:Rl.Sl w B x.rl.a x.rl.n m.rl
 zs:Bys w B x.zs.a x.zs.n m.zs
 osg:x.sg.Ok
 ond:x.nd.Ok
 onm:x.nm.Ok
 osy:x.sy.Ok
 orl:x.rl.Ok
 ozs:x.zs.Ok
theorem Strs.empty (w:World) (B:Nat) (a:Option Addr):Strs w B a 0 []:=⟨rfl,fun h=>absurd h (by omega)⟩
theorem iv0_is (w:World) (B:Nat):iv0.Is w B im0:=
 ⟨rfl,rfl,rfl,rfl,rfl,Sgs.empty _ _ _,Strs.empty _ _ _,Strs.empty _ _ _,Sy.Sl.empty _ _ _,Rl.Sl.empty _ _ _,Bys.empty _ _ _,Sh.zero_ok,Sh.zero_ok,Sh.zero_ok,Sh.zero_ok,Sh.zero_ok,Sh.zero_ok⟩
theorem Iv.cs {w:World} {g:Nat} {v0 v1 v2 v3 v4 v5 v6 v7 v8 v9 v10:Value} {t:TypeId} (h:Blk w g #[v0,v1,v2,v3,v4,v5,v6,v7,v8,v9,v10] t) :
 w.cell? ⟨g,0,none⟩=some v0∧w.cell? ⟨g,1,none⟩=some v1∧w.cell? ⟨g,2,none⟩=some v2∧w.cell? ⟨g,3,none⟩=some v3∧w.cell? ⟨g,4,none⟩=some v4∧w.cell? ⟨g,5,none⟩=some v5∧w.cell? ⟨g,6,none⟩=some v6∧w.cell? ⟨g,7,none⟩=some v7∧w.cell? ⟨g,8,none⟩=some v8∧w.cell? ⟨g,9,none⟩=some v9∧w.cell? ⟨g,10,none⟩=some v10:=
 ⟨h.cell 0,h.cell 1,h.cell 2,h.cell 3,h.cell 4,h.cell 5,h.cell 6,h.cell 7,h.cell 8,h.cell 9,h.cell 10⟩
theorem Iv.fs {w:World} {g:Nat} {v0 v1 v2 v3 v4 v5 v6 v7 v8 v9 v10:Value} {t:TypeId} (h:Blk w g #[v0,v1,v2,v3,v4,v5,v6,v7,v8,v9,v10] t) :
 w.frozen? ⟨g,0,none⟩=false∧w.frozen? ⟨g,1,none⟩=false∧w.frozen? ⟨g,2,none⟩=false∧w.frozen? ⟨g,3,none⟩=false∧w.frozen? ⟨g,4,none⟩=false∧w.frozen? ⟨g,5,none⟩=false∧w.frozen? ⟨g,6,none⟩=false∧w.frozen? ⟨g,7,none⟩=false∧w.frozen? ⟨g,8,none⟩=false∧w.frozen? ⟨g,9,none⟩=false∧w.frozen? ⟨g,10,none⟩=false:=
 ⟨h.frozen 0,h.frozen 1,h.frozen 2,h.frozen 3,h.frozen 4,h.frozen 5,h.frozen 6,h.frozen 7,h.frozen 8,h.frozen 9,h.frozen 10⟩
def CutPost (Z:Int×List Int) (w:World) (e:Ending) (w':World):Prop:=
 (∃u,e=.returned (.tuple #[u,.int .i64 Z.1])∧w'.ownsRow w.heap.size 5 1 u Z.2.length (Z.2.map (Value.int .u8)))∧Below w.heap.size w w'
theorem cutI_bd {zs:List Int} (h:∀n∈zs,0≤n∧n≤255) (p s:Int):∀n∈(cutI zs p s).2,0≤n∧n≤255:=by
 unfold cutI;split
 ·intro n hn;cases hn
 ·exact piece_mem h
theorem bytesI_bd {zs:List Int} (h:∀n∈zs,0≤n∧n≤255) (L:List Sg) (a s:Int):∀n∈(bytesI L zs a s).2,0≤n∧n≤255:=by
 unfold bytesI;split
 ·intro n hn;cases hn
 ·exact cutI_bd h _ _
theorem cutI_max (zs:List Int) (p s:Int):(cutI zs p s).2.length≤zs.length:=by
 unfold cutI;split
 ·exact Nat.zero_le _
 ·show (piece zs p.toNat s.toNat).length≤zs.length;unfold piece;rw [List.length_take,List.length_drop];omega
theorem bytesI_max (L:List Sg) (zs:List Int) (a s:Int):(bytesI L zs a s).2.length≤zs.length:=by
 unfold bytesI;split
 ·exact Nat.zero_le _
 ·exact cutI_max _ _ _
structure Nus (w:World) (B:Nat) (a:Option Addr) (len:Nat) (zs:List Int):Prop where
 hl:zs.length=len
 bd:∀n∈zs,0≤n∧n≤18446744073709551615
 hc:0<len→∃b off,a=some ⟨b,off,none⟩∧b<B∧∀i,i<len→w.cell? ⟨b,off+i,none⟩=some (.int .u64 (zs.getD i 0))
theorem Nus.below {w w':World} {B:Nat} {a:Option Addr} {len:Nat} {zs:List Int} (h:Nus w B a len zs) (hb:Below B w w'):Nus w' B a len zs:=
 ⟨h.hl,h.bd,fun hl=>by
  obtain ⟨b,off,e,hB,hc⟩:=h.hc hl;exact ⟨b,off,e,hB,fun i hi=>(hb.cell (p:=⟨b,off+i,none⟩) hB).trans (hc i hi)⟩⟩
theorem Nus.more {w:World} {B B':Nat} {a:Option Addr} {len:Nat} {zs:List Int} (h:Nus w B a len zs) (hB:B≤B'):Nus w B' a len zs:=
 ⟨h.hl,h.bd,fun hl=>by
  obtain ⟨b,off,e,hb,hc⟩:=h.hc hl;exact ⟨b,off,e,Nat.lt_of_lt_of_le hb hB,hc⟩⟩
theorem getElem_map_u64 {zs:List Int} {i:Nat} (h:i<zs.length):(zs.map (Value.int .u64))[i]?=some (.int .u64 (zs.getD i 0)):=by
 rw [List.getElem?_map,List.getElem?_eq_getElem h,List.getD_eq_getElem?_getD,List.getElem?_eq_getElem h];rfl
theorem Nus.own {w:World} {base:Nat} {e:TypeId} {a:Option Addr} {len cap:Nat} {zs:List Int} (hz:∀n∈zs,0≤n∧n≤18446744073709551615)
 (h:w.ownsRow base e 1 (.slice a len cap) len (zs.map (Value.int .u64))):Nus w w.heap.size a len zs:=by
 have hl:zs.length=len:=by have:=h.1;simpa using this
 refine ⟨hl,hz,fun hp=>?_⟩;obtain ⟨b,off,e1,hB,hc⟩:=(Cel.own h).2 hp;refine ⟨b,off,e1,hB,fun i hi=>?_⟩;rw [hc i hi,getElem_map_u64 (by omega)]
theorem Nus.at {w:World} {B:Nat} {a:Option Addr} {len:Nat} {zs:List Int} (h:Nus w B a len zs) {i:Nat} (hi:i<len):0≤zs.getD i 0∧zs.getD i 0≤18446744073709551615:=by
 have hl:=h.hl;rw [List.getD_eq_getElem?_getD,List.getElem?_eq_getElem (by omega)];exact h.bd _ (List.getElem_mem (by omega))
structure Kp (g:Nat) (W w:World):Prop where
 size:W.heap.size≤w.heap.size
 blk:∀b,b≠g→b<W.heap.size→w.heap[b]?=W.heap[b]?
theorem Kp.refl (g:Nat) (W:World):Kp g W W:=⟨Nat.le_refl _,fun _ _ _=>rfl⟩
theorem Kp.trans {g:Nat} {a b c:World} (h:Kp g a b) (k:Kp g b c):Kp g a c:=
 ⟨Nat.le_trans h.size k.size,fun x hx hl=>(k.blk x hx (Nat.lt_of_lt_of_le hl h.size)).trans (h.blk x hx hl)⟩
theorem Kp.below {g:Nat} {W w:World} (h:Below W.heap.size W w):Kp g W w:=⟨h.size,fun b _ hl=>h.block b hl⟩
theorem Kp.set {g:Nat} {W w:World} (h:Kp g W w) (i:Nat) (u:Value):Kp g W (w.setCell ⟨g,i,none⟩ u):=
 ⟨by have:=h.size;simpa using this,fun b hb hl=>by rw [Below.heap_setCell _ _ _ _ hb];exact h.blk b hb hl⟩
theorem Kp.blks {g:Nat} {W w:World} (h:Kp g W w) {b:Nat} {C:Array Value} {t:TypeId} (hk:Blk W b C t) (hb:b≠g):Blk w b C t:=by
 unfold Blk;rw [h.blk b hb hk.lt];exact hk
theorem b2 {w:World} {g:Nat} {v0 v1:Value} {t:TypeId} (h:Blk w g #[v0,v1] t):w.cell? ⟨g,0,none⟩=some v0∧w.cell? ⟨g,1,none⟩=some v1:=⟨h.cell 0,h.cell 1⟩
theorem g2 {w:World} {g:Nat} {v0 v1:Value} {t:TypeId} (h:Blk w g #[v0,v1] t):w.frozen? ⟨g,0,none⟩=false∧w.frozen? ⟨g,1,none⟩=false:=⟨h.frozen 0,h.frozen 1⟩
end Go.Proofs.YtclgbdfkdbbinaaGreat
