/-
  What is proved here: words and contracts, a part of those that the statement rests on (C7).
  Conditions: none but that the arguments are values of their types.
-/
import Derived.Test.YtclgbdfkdbbinaaGreatC3
import Derived.Test.YtclgbdfkdbbinaaGreatC5
import Derived.Test.YtclgbdfkdbbinaaGreatC6
import Derived.Test.YtclgbdfkdbbinaaGreatC1
import Derived.Test.YtclgbdfkdbbinaaGreatC4
import Derived.Test.YtclgbdfkdbbinaaGreatC2
import Derived.Laws.AppendOwnNone
import Derived.Lib.BytesEntry
import Derived.Lib.LazyBuf
set_option linter.unusedVariables false
set_option linter.unusedSimpArgs false
set_option maxRecDepth 100000
set_option maxHeartbeats 12800000
namespace Go.Proofs.YtclgbdfkdbbinaaGreat
open Go.RowKit
def nm (L:List ByteArray) (i:Nat):ByteArray:=L.getD i .empty
def Seen (L:List ByteArray) (k:Nat) (s:ByteArray):Prop:=s=.empty∨∃i,i<k∧nm L i=s
def firstAt (L:List ByteArray) (s:ByteArray):Nat→Nat
 | 0=>0
 | k+1=>if firstAt L s k<k then firstAt L s k else if nm L k=s then k else k+1
theorem firstAt_le (L:List ByteArray) (s:ByteArray):∀k,firstAt L s k≤k
 | 0=>Nat.le_refl _
 | k+1=>by
   have:=firstAt_le L s k;unfold firstAt;split
   ·omega
   ·split<;>omega
theorem firstAt_hit {L:List ByteArray} {s:ByteArray}:∀{k:Nat},firstAt L s k<k→nm L (firstAt L s k)=s∧∀i,i<firstAt L s k→nm L i≠s
 | 0,h=>absurd h (Nat.not_lt_zero _)
 | k+1,h=>by
   by_cases h1:firstAt L s k<k
   ·have e:firstAt L s (k+1)=firstAt L s k:=by simp [firstAt,h1]
    rw [e];exact firstAt_hit h1
   ·have miss:∀k,¬firstAt L s k<k→∀i,i<k→nm L i≠s:=by
     intro k;induction k with
     | zero=>intro _ i hi;omega
     | succ k ih=>
       intro hk i hi;by_cases h2:firstAt L s k<k
       ·exact absurd (by simp [firstAt,h2];omega) hk
       ·by_cases h3:nm L k=s
        ·exact absurd (by simp [firstAt,h2,h3]) hk
        ·rcases Nat.lt_succ_iff_lt_or_eq.1 hi with h | rfl
         ·exact ih h2 i h
         ·exact h3
    by_cases h3:nm L k=s
    ·have e:firstAt L s (k+1)=k:=by simp [firstAt,h1,h3]
     rw [e];exact ⟨h3,miss k h1⟩
    ·exact absurd h (by simp [firstAt,h1,h3])
theorem firstAt_miss {L:List ByteArray} {s:ByteArray} {k:Nat} (h:¬firstAt L s k<k):∀i,i<k→nm L i≠s:=by
 induction k with
 | zero=>intro i hi;omega
 | succ k ih=>
   intro i hi;by_cases h2:firstAt L s k<k
   ·exact absurd (by simp [firstAt,h2];omega) h
   ·by_cases h3:nm L k=s
    ·exact absurd (by simp [firstAt,h2,h3]) h
    ·rcases Nat.lt_succ_iff_lt_or_eq.1 hi with h4 | rfl
     ·exact ih h2 i h4
     ·exact h3
theorem firstAt_stay {L:List ByteArray} {s:ByteArray} {k m:Nat} (h:firstAt L s k<k) (hm:k≤m):firstAt L s m=firstAt L s k:=by
 induction m with
 | zero=>omega
 | succ m ih=>
   rcases Nat.le_or_eq_of_le_succ hm with h1 | rfl
   ·have:=ih h1;simp [firstAt,this,show firstAt L s k<m from by omega]
   ·rfl
theorem firstAt_new {L:List ByteArray} {s:ByteArray} {k m:Nat} (h:∀i,i<k→nm L i≠s) (hk:nm L k=s) (hm:k<m):firstAt L s m=k:=by
 have h1:¬firstAt L s k<k:=fun hl=>h _ hl (firstAt_hit hl).1;have h2:firstAt L s (k+1)=k:=by simp [firstAt,h1,hk]
 rw [firstAt_stay (k:=k+1) (by omega) (by omega),h2]
def seenB (L:List ByteArray) (k:Nat) (s:ByteArray):Bool:=decide (s=.empty) || decide (firstAt L s k<k)
theorem seenB_iff (L:List ByteArray) (k:Nat) (s:ByteArray):seenB L k s=true↔Seen L k s:=by
 unfold seenB Seen;simp only [Bool.or_eq_true,decide_eq_true_eq];constructor
 ·rintro (h | h)
  ·exact .inl h
  ·exact .inr ⟨_,h,(firstAt_hit h).1⟩
 ·rintro (h | ⟨i,h1,h2⟩)
  ·exact .inl h
  ·refine .inr ?_;rcases Nat.lt_or_ge (firstAt L s k) k with h3 | h3
   ·exact h3
   ·exact absurd h2 (firstAt_miss (by omega) i h1)
theorem seenB_succ (L:List ByteArray) (k:Nat) (s:ByteArray):seenB L (k+1) s=(seenB L k s || decide (nm L k=s)):=by
 rw [Bool.eq_iff_iff,Bool.or_eq_true,seenB_iff,seenB_iff,decide_eq_true_eq];unfold Seen;constructor
 ·rintro (h | ⟨i,h1,h2⟩)
  ·exact .inl (.inl h)
  ·rcases Nat.lt_succ_iff_lt_or_eq.1 h1 with h3 | rfl
   ·exact .inl (.inr ⟨i,h3,h2⟩)
   ·exact .inr h2
 ·rintro ((h | ⟨i,h1,h2⟩) | h)
  ·exact .inl h
  ·exact .inr ⟨i,by omega,h2⟩
  ·exact .inr ⟨k,by omega,h⟩
def tab (L:List ByteArray):Nat→List Int
 | 0=>[0]
 | k+1=>if seenB L k (nm L k) then tab L k else tab L k++(bs (nm L k)++[0])
theorem tab_seen {L:List ByteArray} {k:Nat} (h:seenB L k (nm L k)=true):tab L (k+1)=tab L k:=by simp [tab,h]
theorem tab_new {L:List ByteArray} {k:Nat} (h:seenB L k (nm L k)=false):tab L (k+1)=tab L k++(bs (nm L k)++[0]):=by simp [tab,h]
theorem tab_bd (L:List ByteArray):∀k,∀n∈tab L k,0≤n∧n≤255
 | 0=>fun n hn=>by
   have h:n=0:=by simpa [tab] using hn
   omega
 | k+1=>by
   unfold tab;split
   ·exact tab_bd L k
   ·intro n hn;simp only [List.mem_append,List.mem_singleton] at hn;rcases hn with h | h | rfl
    ·exact tab_bd L k n h
    ·exact bs_bd _ n h
    ·decide
theorem tab_mono (L:List ByteArray) {k m:Nat} (h:k≤m):(tab L k).length≤(tab L m).length:=by
 induction m with
 | zero=>have:k=0:=by omega
         subst this;exact Nat.le_refl _
 | succ m ih=>
   rcases Nat.le_or_eq_of_le_succ h with h1 | rfl
   ·refine Nat.le_trans (ih h1) ?_;rw [tab];split
    ·exact Nat.le_refl _
    ·rw [List.length_append];omega
   ·exact Nat.le_refl _
theorem tab_pos (L:List ByteArray) (k:Nat):1≤(tab L k).length:=tab_mono L (Nat.zero_le k)
theorem tab_pre (L:List ByteArray) {k m:Nat} (h:k≤m):∃r,tab L m=tab L k++r:=by
 induction m with
 | zero=>have:k=0:=by omega
         subst this;exact ⟨[],by simp⟩
 | succ m ih=>
   rcases Nat.le_or_eq_of_le_succ h with h1 | rfl
   ·obtain ⟨r,hr⟩:=ih h1;rw [tab];split
    ·exact ⟨r,hr⟩
    ·exact ⟨r++(bs (nm L m)++[0]),by rw [hr,List.append_assoc]⟩
   ·exact ⟨[],by simp⟩
def pos (L:List ByteArray) (k:Nat) (s:ByteArray):Nat:=if s=.empty then 0 else (tab L (firstAt L s k)).length
theorem pos_empty (L:List ByteArray) (k:Nat):pos L k .empty=0:=by simp [pos]
theorem pos_stay {L:List ByteArray} {k m:Nat} {s:ByteArray} (h:Seen L k s) (hm:k≤m):pos L m s=pos L k s:=by
 unfold pos;rcases h with rfl | ⟨i,h1,h2⟩
 ·simp
 ·split
  ·rfl
  ·rcases Nat.lt_or_ge (firstAt L s k) k with h3 | h3
   ·rw [firstAt_stay h3 hm]
   ·exact absurd h2 (firstAt_miss (by omega) i h1)
theorem pos_new {L:List ByteArray} {k:Nat} (h:seenB L k (nm L k)=false):pos L (k+1) (nm L k)=(tab L k).length:=by
 have h1:¬Seen L k (nm L k):=fun hs=>by rw [(seenB_iff L k _).2 hs] at h;cases h
 have hne:nm L k≠.empty:=fun e=>h1 (.inl e);unfold pos;rw [if_neg hne,firstAt_new (k:=k) (fun i hi e=>h1 (.inr ⟨i,hi,e⟩)) rfl (by omega)]
theorem pos_lt {L:List ByteArray} {k:Nat} {s:ByteArray} (h:Seen L k s):pos L k s<(tab L k).length:=by
 unfold pos;split
 ·exact tab_pos L k
 ·rename_i hne;rcases h with h | ⟨i,h1,h2⟩
  ·exact absurd h hne
  ·rcases Nat.lt_or_ge (firstAt L s k) k with h3 | h3
   ·have hm:=tab_mono L (k:=firstAt L s k+1) (m:=k) (by omega);have hh:=firstAt_hit h3;have hn:seenB L (firstAt L s k) (nm L (firstAt L s k))=false:=by
     rw [Bool.eq_false_iff];intro hs;rcases (seenB_iff _ _ _).1 hs with h4 | ⟨j,h4,h5⟩
     ·exact hne (hh.1▸h4)
     ·exact hh.2 j h4 (by rw [h5,hh.1])
    rw [tab_new hn,List.length_append,List.length_append] at hm;simp at hm;omega
   ·exact absurd h2 (firstAt_miss (by omega) i h1)
def outs (L:List ByteArray):Nat→List Int
 | 0=>[]
 | k+1=>outs L k++[(pos L (k+1) (nm L k):Int)]
theorem outs_len (L:List ByteArray):∀k,(outs L k).length=k
 | 0=>rfl
 | k+1=>by rw [outs,List.length_append,outs_len L k];rfl
theorem outs_getD (L:List ByteArray):∀{k i:Nat},i<k→(outs L k).getD i 0=(pos L k (nm L i):Int)
 | 0,i,h=>absurd h (Nat.not_lt_zero _)
 | k+1,i,h=>by
   rw [outs];rcases Nat.lt_succ_iff_lt_or_eq.1 h with h1 | rfl
   ·have e:(outs L k++[(pos L (k+1) (nm L k):Int)]).getD i 0=(outs L k).getD i 0:=by
     rw [List.getD_eq_getElem?_getD,List.getD_eq_getElem?_getD,List.getElem?_append_left (by rw [outs_len];exact h1)]
    rw [e,outs_getD L h1,pos_stay (k:=k) (m:=k+1) (.inr ⟨i,h1,rfl⟩) (by omega)]
   ·rw [List.getD_eq_getElem?_getD,List.getElem?_append_right (by rw [outs_len];exact Nat.le_refl _),outs_len,Nat.sub_self];rfl
def Clean (L:List ByteArray):Prop:=∀i,i<L.length→k2_NoZ (bs (nm L i))
theorem clean_or (L:List ByteArray):Clean L∨∃i k,i<L.length∧(∀j,j<i→k2_NoZ (bs (nm L j)))∧k2_FirstZ (bs (nm L i)) k:=by
 have h:∀m,(∀i,i<m→k2_NoZ (bs (nm L i)))∨∃i k,i<m∧(∀j,j<i→k2_NoZ (bs (nm L j)))∧k2_FirstZ (bs (nm L i)) k:=by
  intro m;induction m with
  | zero=>exact .inl fun i hi=>absurd hi (Nat.not_lt_zero _)
  | succ m ih=>
    rcases ih with h | ⟨i,k,h1,h2⟩
    ·rcases k2_firstZ_or (bs (nm L m)) with h3 | ⟨k,h3⟩
     ·refine .inl fun i hi=>?_;rcases Nat.lt_succ_iff_lt_or_eq.1 hi with h4 | rfl
      ·exact h i h4
      ·exact h3
     ·exact .inr ⟨m,k,by omega,h,h3⟩
    ·exact .inr ⟨i,k,by omega,h2⟩
 exact h L.length
def cleanB (L:List ByteArray):Bool:=L.all fun s=>(bs s).all fun c=>decide (c≠0)
theorem cleanB_iff (L:List ByteArray):cleanB L=true↔Clean L:=by
 unfold cleanB Clean;rw [List.all_eq_true];constructor
 ·intro h i hi k hk;have h1:=h _ (List.getElem_mem hi);rw [List.all_eq_true] at h1;have e:nm L i=L[i]:=by unfold nm;rw [List.getD_eq_getElem?_getD,List.getElem?_eq_getElem hi];rfl
  rw [e] at hk⊢;have h2:=h1 _ (List.getElem_mem hk);rw [decide_eq_true_eq] at h2;rw [List.getD_eq_getElem?_getD,List.getElem?_eq_getElem hk];exact h2
 ·intro h s hs;obtain ⟨i,hi,rfl⟩:=List.getElem_of_mem hs;rw [List.all_eq_true];intro c hc;obtain ⟨k,hk,rfl⟩:=List.getElem_of_mem hc;have e:nm L i=L[i]:=by unfold nm;rw [List.getD_eq_getElem?_getD,List.getElem?_eq_getElem hi];rfl
  have h2:=h i hi k (by rw [e];exact hk);rw [e,List.getD_eq_getElem?_getD,List.getElem?_eq_getElem hk] at h2;rw [decide_eq_true_eq];exact h2
def listB (m:Sp):List ByteArray:=m.so :: (m.nd++m.df.map (·.nm))
theorem listB_len (m:Sp):(listB m).length=1+m.nd.length+m.df.length:=by simp [listB];omega
def tabB (m:Sp):List Int:=tab (listB m) (listB m).length
def outB (m:Sp):List Int:=outs (listB m) (listB m).length
theorem outB_len (m:Sp):(outB m).length=1+m.nd.length+m.df.length:=by unfold outB;rw [outs_len,listB_len]
def hasC (m:Sp):Bool:=decide (0<m.co.length)
def hasD (m:Sp):Bool:=decide (0<m.da.length∨0<m.tl.length∨0<m.bs)
def hasT (m:Sp):Bool:=decide (0<m.tl.length∨0<m.tb)
def one (b:Bool):Int:=if b then 1 else 0
def countB (m:Sp):Int:=2+one (hasC m)+one (hasD m)+one (hasT m)
def symN (m:Sp):Int:=if 0<m.df.length then m.df.length+1 else 0
def relN (m:Sp):Int:=24*m.fx.length
def needO (m:Sp):List Int:=((outB m).drop 1).take m.nd.length
theorem needO_len (m:Sp):(needO m).length=m.nd.length:=by unfold needO;rw [List.length_take,List.length_drop,outB_len];omega
def v0B (m:Sp):List Int:=[(outB m).getD 0 0,0,(tabB m).length,0,symN m,0,relN m]
def dynB (m:Sp):Int:=64+56*countB m
def sizeB (m:Sp):Int:=(putBy (needO m) (v0B m)).length
def strB (m:Sp):Int:=dynB m+sizeB m
def symB (m:Sp):Int:=upI (strB m+(tabB m).length) 8
def relB (m:Sp):Int:=symB m+24*symN m
def endB (m:Sp):Int:=relB m+relN m
def codeB (m:Sp):Int:=upI (endB m) 256
def dataB (m:Sp):Int:=upI (codeB m+m.co.length) 256
def tlsB (m:Sp):Int:=upI (dataB m+m.da.length) 8
def entryB (m:Sp):Int:=if hasC m then IntKind.u64.wrap (codeB m+m.en) else 0
def vB (m:Sp):List Int:=[(outB m).getD 0 0,strB m,(tabB m).length,symB m,symN m,relB m,relN m]
def datF (m:Sp):Int:=if 0<m.tl.length then tlsB m+m.tl.length-dataB m else m.da.length
def segsB (m:Sp):List Sg:=
 [⟨1,4,0,0,endB m,endB m,256⟩]
 ++(if hasC m then [⟨1,5,codeB m,codeB m,m.co.length,m.co.length,256⟩] else [])
 ++(if hasD m then [⟨1,6,(if datF m=0 then 0 else dataB m),dataB m,datF m,datF m+m.bs,256⟩] else [])
 ++[⟨2,4,dynB m,dynB m,sizeB m,sizeB m,8⟩]
 ++(if hasT m then [⟨7,4,(if 0<m.tl.length then tlsB m else 0),(if 0<m.tl.length then tlsB m else 0),m.tl.length,m.tl.length+m.tb,8⟩] else [])
def symOf (m:Sp) (d:Df) (p:Int):Sy:=
 ⟨p,(if d.wk then 32 else 16)+(if d.wh=0 then 0 else if d.wh=1 then 2 else if d.wh=2 then 1 else 6),0,(if d.wh=0 then 0 else 1),
  (if d.wh=0 then 0 else if d.wh=1 then IntKind.u64.wrap (d.of+codeB m) else if d.wh=2 then IntKind.u64.wrap (d.of+dataB m) else d.of),0⟩
def symsB (m:Sp) (k:Nat):List Sy:=(List.range k).map fun i=>symOf m (m.df.getD i Df.zero) ((outB m).getD (1+m.nd.length+i) 0)
def relOf (m:Sp) (f:Fx):Rl:=
 ⟨(if f.wh=2 then IntKind.u64.wrap (f.of+dataB m) else IntKind.u64.wrap (f.of+codeB m)),f.ty,(if 0≤f.df then f.df+1 else 0),f.ad⟩
def relsB (m:Sp) (k:Nat):List Rl:=(List.range k).map fun i=>relOf m (m.fx.getD i Fx.zero)
def padB (zs:List Int) (n:Nat):List Int:=zs++List.replicate (padN zs.length n) 0
def frontB (m:Sp):List Int:=enc m.k (entryB m) 64 (countB m)++(segsB m).flatMap encS++putBy (needO m) (vB m)
def headB (m:Sp):List Int:=padB (frontB m++tabB m) 8
def symsP (m:Sp):List Int:=headB m++((if 0<m.df.length then List.replicate 24 0 else [])++(symsB m m.df.length).flatMap encY)
def relsP (m:Sp):List Int:=symsP m++(relsB m m.fx.length).flatMap encL
def codeP (m:Sp):List Int:=if hasC m then padB (relsP m) 256++m.co else relsP m
def dataP (m:Sp):List Int:=if 0<m.da.length then padB (codeP m) 256++m.da else codeP m
def fileB (m:Sp):List Int:=if 0<m.tl.length then dataP m++(List.replicate ((tlsB m).toNat-(dataP m).length) 0++m.tl) else dataP m
def buildI (m:Sp):Int×List Int:=
 if mayI m≠0 then (mayI m,[])
 else if cleanB (listB m)=false then (1,[])
 else if 65536<(tabB m).length then (13,[])
 else if 65536<(fileB m).length then (13,[])
 else (0,fileB m)
theorem inOrder_any (g h n:Nat) (ks:List FuncId) (fs:List (Pm→Int×Pm)) (C:Array Value) (t:TypeId) (p:Pz) (m:Pm) (w:World) (hp:Ps9 g w p m) (hh:Blk w h C t) (hg:h≠g) (hn:fs.length=n) (hn2:n≤100)
 (hC:∀q,q<n→C[q]?=some (stepV g (ks.getD q 0))) (hk:∀q,q<n→ks.getD q 0=19∨ks.getD q 0=20∨ks.getD q 0=21∨ks.getD q 0=22∨ks.getD q 0=23∨ks.getD q 0=24∨ks.getD q 0=51∨ks.getD q 0=52∨ks.getD q 0=53∨ks.getD q 0=54∨ks.getD q 0=55∨ks.getD q 0=56) (pre:Nat→Pm→Prop) (hp0:pre 0 m) (hpn:∀q m,q<n→pre q m→((fs.getD q fun m=>(0,m)) m).1=0→pre (q+1) ((fs.getD q fun m=>(0,m)) m).2) (hs:∀q,q<n→StepAt g (ks.getD q 0) (pre q) (fs.getD q fun m=>(0,m))) :
 Calls Tryz.prog 18 #[.slice (some ⟨h,0,none⟩) n n] w (StepPost g (runI fs m) w):=by
 obtain ⟨Z,hZ⟩:∃Z,runI fs m=Z:=⟨_,rfl⟩
 rw [hZ];have HZ:Hid (runI (fs.drop 0) m=Z):=Lib.hid (by rw [List.drop_zero];exact hZ);have HP:=Lib.hid hp;have HH:=Lib.hid hh;have HC:=Lib.hid hC;have HS:=Lib.hid hs;have HN:=Lib.hid hn;have HPN:=Lib.hid hpn;have HPZ:=Lib.hid hp0;have hni:(n:Int)≤100:=by omega
 clear hp hh hC hs hn hZ hpn hp0;go_enter Tryz.func18,Tryz.ntmps18
 go_wp2;go_loopw [4,5,8] (fun _ _ i wr=>∃(q:Nat) (p':Pz) (m':Pm),q≤n∧i=.int .i64 q∧Ps9 g wr p' m'∧Kq g w wr∧pre q m'∧runI (fs.drop q) m'=Z) (fun _ _ i _=>n-(intOf i).toNat)
 case atStart=>exact ⟨0,p,m,Nat.zero_le _,rfl,HP.out,Kq.refl _ _,HPZ.out,HZ.out⟩
 case round=>
  obtain ⟨q,p',m',hq,rfl,hst,hkq,hpr,hr⟩:=hrel;have HST:=Lib.hid hst;have HKQ:=Lib.hid hkq;have HHW:=Lib.hid (HKQ.out.kp.blks HH.out hg);by_cases hlt:q<n
  ·have hqi:(q:Int)<n:=by omega
   have c0:wr.cell? ⟨h,q,none⟩=some (stepV g (ks.getD q 0)):=by rw [HHW.out.cell q];exact HC.out q hlt
   have hhl:=HHW.out.lt;have HCA:=Lib.hid (HS.out q hlt p' m' wr hpr HST.out);have HNX:=Lib.hid (HPN.out q m' hlt hpr);rw [runI_at (by rw [HN.out];exact hlt)] at hr;have hkk:=hk q hlt;generalize ks.getD q 0=k at c0 HCA hkk;generalize (fs.getD q fun m=>(0,m))=f at HCA hr HNX;unfold stepV at c0;have HR:=Lib.hid hr;clear hst hkq hr hk hpr;rcases hkk with rfl | rfl | rfl | rfl | rfl | rfl | rfl | rfl | rfl | rfl | rfl | rfl;all_goals (
    go_wp2_with fail;refine HCA.out.mono ?_;rintro r w2 ⟨rfl,hok,hk2⟩;have HK2:=Lib.hid (HKQ.out.trans hk2);by_cases he:(f m').1=0
    ·obtain ⟨p2,hp2⟩:=hok he;have he0:=Lib.hid he;have hr2:=HR.out;rw [if_neg (by rw [he];decide)] at hr2;have HP2:=Lib.hid hp2;have HR2:=Lib.hid hr2;rw [he];clear hok hk2 hp2 hr2;go_wp2;go_roundw
     case rel=>exact ⟨q+1,p2,_,by omega,by go_num,HP2.out,HK2.out,HNX.out he0.out,HR2.out⟩
     case measure=>(simp [intOf]<;>omega)
    ·have heb:((f m').1 != 0)=true:=by rw [bne_iff_ne];exact he
     have hr2:=HR.out;rw [if_pos he] at hr2;subst hr2;have HOK:=Lib.hid hok;clear hok hk2;go_wp2;go_ret;exact ⟨rfl,HOK.out,HK2.out⟩)
  ·obtain rfl:q=n:=by omega
   have hr2:Z=(0,m'):=by
    rw [←hr,List.drop_eq_nil_of_le (by rw [HN.out];exact Nat.le_refl _)];rfl
   subst hr2;clear hst hkq hr hpr;go_wp2;go_ret;exact ⟨rfl,fun _=>⟨p',HST.out⟩,HKQ.out⟩
theorem wpList_append_bys {P:Program} {w:World} {ops:Array Oper} {rest:List Oper} {o:Oper} {a:Act} {Q:Exit→Act→World→Prop} (hgd:o.guard=none) (s x:Operand) (t:TypeId)
 (ho:o.op=.call { callee:=.builtin .append,args:=#[s,x],argTypes:=#[t,t] })
 (base:Nat) (e:TypeId) (i:TypeInfo) (z:Value) (bytes:Nat) (ht:P.underlying t=some (.slice e)) (hi:P.info? e=some i) (hz:i.zero=some z)
 (hsize:i.size=1) (hby:i.bytes=bytes) (hzs:z.cells.size=1)
 (v:Value) (n:Nat) (xs:List Value) (hs:a.eval s=v) (hown:w.ownsRow base e 1 v n xs)
 (ad:Option Addr) (m c:Nat) (B:Nat) (L:List Int) (hx:a.eval x=.slice ad m c) (hst:Bys w B ad m L) (hc:ad=none→c=0)
 (h63:n+m≤maxLen) (hbytes:(n+m)*bytes≤140737488355328) (hbase:base≤w.heap.size)
 (h:∀v' w',w'.ownsRow base e 1 v' (n+m) (xs++L.map (Value.int .u8))→w.grownBy w' v.ownBlock→wpList P ops Q rest (a.put o.dst v') w'):wpList P ops Q (o :: rest) a w:=by
 cases ad with
 | none=>
   have hm:m=0:=by
    rcases Nat.eq_zero_or_pos m with h0 | h0
    ·exact h0
    ·obtain ⟨b,off,e,_⟩:=hst.2.2 h0;cases e
   subst hm;have hL:L=[]:=List.eq_nil_of_length_eq_zero hst.1;subst hL;obtain rfl:=hc rfl;refine wpList_append_own_none hgd s x t ho base e i 1 ht hi v n xs hs hown hx (h v w ?_ ⟨rfl,rfl,rfl,Nat.le_refl _,fun _ _ _=>rfl⟩);simpa using hown
 | some ad=>
   refine wpList_append_own w hgd s x t ho base e i z 1 bytes ht hi hz hsize hby hzs (by decide) v n xs hs hown ad m c (L.map (Value.int .u8)) hx (by rw [List.length_map,hst.1];omega) ?_ (one_u8 L) h63 hbytes hbase (fun v' w' h1 h2 _=>h v' w' h1 h2);intro j u hj;have hjm:j<m:=by
    have:=(List.getElem?_eq_some_iff.1 hj).1;rw [List.length_map,hst.1] at this;exact this
   obtain ⟨b,off,e,_,hcell⟩:=hst.2.2 (by omega);injection e with e;subst e;exact Bys.src hst.1 hcell j u hj
theorem IsRow.nil {k:IntKind} {w:World} {a:Option Addr} {len cap:Nat} {zs:List Int} (h:IsRow k w a len cap zs) (ha:a=none):cap=0:=by
 rcases h with ⟨_,_,h,_⟩ | ⟨x,h,_⟩
 ·exact h
 ·rw [ha] at h;cases h
def Rb (base:Nat) (w:World) (v:Value) (zs:List Int):Prop:=w.ownsRow base 5 1 v zs.length (zs.map (Value.int .u8))
theorem iclone_ok (B:Nat) (a:Option Addr) (n c:Nat) (zs:List Int) (w:World) (hb:Bys w B a n zs) (hB:B≤w.heap.size) (hnil:a=none→c=0) (hn:n≤1000000) :
 Calls Tryz.prog 43 #[.slice a n c] w fun r w'=>(∃u,r=.returned u∧Rb w.heap.size w' u zs)∧Below w.heap.size w w':=by
 obtain ⟨i0,hi,hz0,hz1,hz2⟩:=info_parts info_u8;have HI:=Lib.hid hi;have HZ0:=Lib.hid hz0;have HZ1:=Lib.hid hz1;have HZ2:=Lib.hid hz2;have HBY:=Lib.hid hb;have HNIL:=Lib.hid hnil;clear hi hz0 hz1 hz2 hb hnil;cases a with
 | none=>
   have h0:n=0:=by
    rcases Nat.eq_zero_or_pos n with h0 | h0
    ·exact h0
    ·obtain ⟨b,off,e,_⟩:=HBY.out.2.2 h0;cases e
   subst h0;obtain rfl:=HNIL.out rfl;have hz:zs=[]:=List.eq_nil_of_length_eq_zero HBY.out.1;subst hz;have hq:∀wx,(binOp .eql 22 (.slice none 0 0) (.slice none 0 0)).run Tryz.prog wx=.ok (.bool true) wx:=fun wx=>by
    have h:=Tryz.underlying22;simp [binOp,Op.equal,Op.maxDepth,Lib.run_equalIn_slice_nil wx 9999 _ _ none 0 0 0 0 h]
   go_enter Tryz.func43,Tryz.ntmps43
   go_wp2;go_ret;exact ⟨⟨_,rfl,World.ownsRow_nil _ _ _ _⟩,Below.refl _ _⟩
 | some ad=>
   have hq:∀wx,(binOp .eql 22 (.slice (some ad) n c) (.slice none 0 0)).run Tryz.prog wx=.ok (.bool false) wx:=fun wx=>by
    have h:=Tryz.underlying22;simp [binOp,Op.equal,Op.maxDepth,Lib.run_equalIn_slice_nil wx 9999 _ _ (some ad) n c 0 0 h]
   go_enter Tryz.func43,Tryz.ntmps43
   have HSZ:Hid (n=zs.length):=Lib.hid HBY.out.1.symm;have HO0:Hid ((w.alloc (.cells #[] 5)).ownsRow w.heap.size 5 1 (.slice (some ⟨w.heap.size,0,none⟩) 0 0) 0 ([]:List Value)):=Lib.hid ⟨rfl,.inr ⟨_,_,_,rfl,Nat.le_refl _,Blk.new w #[] _,Nat.le_refl _,by decide,rfl,rfl⟩⟩;have hbl:Below w.heap.size w (w.alloc (.cells #[] 5)):=(Below.refl _ _).alloc (Nat.le_refl _) _;have HBL:=Lib.hid hbl;have HBY2:=Lib.hid (HBY.out.below (hbl.mono hB));clear hbl;go_wp2_with (at_builtin;refine wpList_append_bys rfl _ _ 22 rfl w.heap.size 5 i0 (.int .u8 0) 1 Tryz.underlying22 HI.out HZ0.out HZ1.out HZ2.out rfl _ 0 _ rfl HO0.out _ n c _ zs rfl HBY2.out (fun e=>by cases e) ?e1 ?e2 ?e3 ?_);case e1=>unfold maxLen;omega
   case e2=>omega
   case e3=>simp
   intro v2 w2 hown hg;have HO2:Hid (Rb w.heap.size w2 v2 zs):=Lib.hid (by
    unfold Rb;rw [←HSZ.out];simpa using hown)
   have HB2:Hid (Below w.heap.size w w2):=Lib.hid (HBL.out.grown hg HBL.out.size (fun q e=>(HO0.out.lt q e).1));clear hown hg;go_wp2;go_ret;exact ⟨⟨_,rfl,HO2.out⟩,HB2.out⟩
theorem placeI_bd (L:List Sg) (a s:Int):0≤(placeI L a s).2∧(placeI L a s).2≤18446744073709551615:=by
 unfold placeI;split
 ·decide
 ·cases L.find? (placeB a s) with
  | none=>exact ⟨Int.le_refl 0,show (0:Int)≤18446744073709551615 by decide⟩
  | some g=>
    show 0≤placedS g a∧placedS g a≤18446744073709551615;unfold placedS;rw [IntKind.wrap_u64];omega
theorem validB_no {k c:Int} (h:¬(2≤k∧k≤4∧0≤c∧c≤64)):validB k c=false:=by
 cases hv:validB k c with
 | false=>rfl
 | true=>exact absurd (validB_iff.1 hv) h
theorem k3_valid_any (k e s c:Int) (w:World) :
 Calls Tryz.prog 132 #[headV k e s c] w fun r w'=>r=.returned (.bool (validB k c))∧Below w.heap.size w w':=by
 obtain ⟨b,hb⟩:∃b,validB k c=b:=⟨_,rfl⟩
 rw [hb];have HB:=Lib.hid hb;have hbl:∀o,Below w.heap.size w (w.alloc o):=fun o=>(Below.refl _ _).alloc (Nat.le_refl _) o;clear hb;unfold headV;by_cases h1:2≤k
 ·by_cases h2:k≤4
  ·by_cases h3:0≤c
   ·by_cases h4:c≤64
    ·go_enter Tryz.func132,Tryz.ntmps132
     go_wp2;go_ret;refine ⟨ret_bool ?_,hbl _⟩;rw [←HB.out,validB_iff.2 ⟨h1,h2,h3,h4⟩];try simp<;>omega
    ·go_enter Tryz.func132,Tryz.ntmps132
     go_wp2;go_ret;refine ⟨ret_bool ?_,hbl _⟩;rw [←HB.out,validB_no (fun h=>by omega)];try simp<;>omega
   ·go_enter Tryz.func132,Tryz.ntmps132
    go_wp2;go_ret;refine ⟨ret_bool ?_,hbl _⟩;rw [←HB.out,validB_no (fun h=>by omega)];try simp<;>omega
  ·go_enter Tryz.func132,Tryz.ntmps132
   go_wp2;go_ret;refine ⟨ret_bool ?_,hbl _⟩;rw [←HB.out,validB_no (fun h=>by omega)];try simp<;>omega
 ·go_enter Tryz.func132,Tryz.ntmps132
  go_wp2;go_ret;refine ⟨ret_bool ?_,hbl _⟩;rw [←HB.out,validB_no (fun h=>by omega)];try simp<;>omega
theorem k3_setB_noughts (x:Int) (n:Nat):setB (List.replicate n 0) 0 x n=digs x n:=by
 simp [setB,List.drop_eq_nil_of_le]
theorem k3_replicate_map (n:Nat):List.replicate n (Value.int .u8 0)=(List.replicate n (0:Int)).map (Value.int .u8):=by
 rw [List.map_replicate]
def k3_Made (zs:List Int) (u:Value) (w:World):Prop:=∃g c,u=.slice (some ⟨g,0,none⟩) zs.length c∧zs.length≤c∧(c:Int)≤9223372036854775807∧Bys w w.heap.size (some ⟨g,0,none⟩) zs.length zs
theorem k3_own_made {w:World} {base:Nat} {u:Value} {zs:List Int} (h:w.ownsRow base 5 1 u zs.length (zs.map (Value.int .u8))) (h0:0<zs.length) (hz:∀n∈zs,0≤n∧n≤255):k3_Made zs u w:=by
 obtain ⟨g,c,rfl,_⟩:=own_some h h0;have hcap:zs.length≤c∧c≤maxLen:=by
  rcases h.2 with ⟨hx,_⟩ | ⟨g,c,cur,hx,_,_,h3,h4,_⟩
  ·cases hx
  ·injection hx with _ _ hx;subst hx;exact ⟨h3,h4⟩
 exact ⟨g,c,rfl,hcap.1,by have:=hcap.2;unfold maxLen at this;omega,Bys.own hz h⟩
theorem k3_number_ok (x:Int) (n:Nat) (w:World) (h:n=1∨n=2∨n=4∨n=8) (x0:0≤x) (x1:x≤18446744073709551615) :
 Calls Tryz.prog 134 #[.int .u64 x,.int .i64 n] w fun r w'=>(∃u,r=.returned u∧k3_Made (digs x n) u w')∧Below w.heap.size w w':=by
 obtain ⟨i0,hi,hz0,hz1,hz2⟩:=info_parts info_u8;have Hn:=Lib.hid h;have hn8:n≤8:=by omega
 have HI:=Lib.hid hi;have HZ0:=Lib.hid hz0;have HZ1:=Lib.hid hz1;have HZ2:=Lib.hid hz2;clear h hi hz0 hz1 hz2;go_enter Tryz.func134,Tryz.ntmps134
 go_wp2_with (at_make;refine wpList_make_full _ rfl _ _ 22 rfl w.heap.size 5 i0 (.int .u8 0) 1 Tryz.underlying22 HI.out HZ0.out HZ1.out .i64 .i64 _ _ n rfl rfl rfl rfl ?c1 ?c2 ?c3 ?_);case c1=>rw [HZ2.out];omega
 case c2=>unfold maxLen;omega
 case c3=>exact Nat.le_refl _
 intro w1 hown hg;have hb1:Below w.heap.size w w1:=(Below.refl _ _).grown hg (Nat.le_refl _) (fun _ e=>by cases e);rw [toList_madeCells_one,k3_replicate_map] at hown;have HBY:=Lib.hid (Bys.own (zs:=List.replicate n 0) (fun m hm=>by rw [List.eq_of_mem_replicate hm];omega) hown);clear hown hg;go_wp2_with (go_at_call 129;refine (set_ok _ _ _ _ (List.replicate n 0) 0 n x _ HBY.out (Nat.le_refl _) Hn.out (by omega) (by omega) x0 x1).mono ?_);rintro e w2 ⟨rfl,hown,hb2⟩;rw [k3_setB_noughts] at hown;have hby:=Bys.own (digs_bd x n) hown;have HM:Hid (k3_Made (digs x n) (.slice (some ⟨w1.heap.size,0,none⟩) n n) w2):=Lib.hid (by
  refine ⟨w1.heap.size,n,by rw [digs_len],by rw [digs_len];exact Nat.le_refl _,by omega,?_⟩;rw [digs_len];exact hby)
 have hbb:=hb1.trans (hb2.mono hb1.size);clear hown hby hb1 hb2;go_wp2;go_ret;exact ⟨⟨_,rfl,HM.out⟩,hbb⟩
theorem k3_read_ok (B:Nat) (a:Option Addr) (len cap:Nat) (zs:List Int) (p n:Nat) (w:World) (hb:Bys w B a len zs) (h:n=1∨n=2∨n=4∨n=8) (hl:(len:Int)≤9223372036854775807) (hs:p+n≤len) :
 Calls Tryz.prog 86 #[.slice a len cap,.int .u64 p,.int .i64 n] w fun e w'=>e=.returned (.int .u64 (num (piece zs p n)))∧w=w':=by
 have HB:=Lib.hid hb;have Hn:=Lib.hid h;clear hb h;go_enter Tryz.func86,Tryz.ntmps86
 go_wp2_with (go_at_call 131;refine (get_ok _ _ _ _ _ _ _ _ HB.out Hn.out hl hs).mono ?_;rintro e w' ⟨rfl,rfl⟩);go_ret;exact ⟨rfl,rfl⟩
theorem strOfNums_eq {zs ys:List Int} (hz:∀n∈zs,0≤n∧n≤255) (hy:∀n∈ys,0≤n∧n≤255):(strOfNums zs=strOfNums ys)↔zs=ys:=
 ⟨fun h=>by rw [←bs_strOfNums hz,←bs_strOfNums hy,h],fun h=>by rw [h]⟩
theorem k3_bytesOf_nums (l:List UInt8):Lib.bytesOf (l.map fun c=>(c.toNat:Int))=l:=by
 unfold Lib.bytesOf;rw [List.map_map];conv=>rhs;rw [←List.map_id l]
 refine List.map_congr_left fun c _=>?_;simp
theorem k3_toList_inj {s t:ByteArray} (h:s.toList=t.toList):s=t:=by
 have e:∀s:ByteArray,s.toList=s.data.toList:=fun s=>by
  have:=Lib.strOfNums_toList (bs s);rw [strOfNums_bs] at this;rw [this,bs,k3_bytesOf_nums]
 rw [e,e] at h;exact ByteArray.ext (Array.ext' h)
theorem equal_any (B B':Nat) (a a':Option Addr) (len len' cap cap':Nat) (zs ys:List Int) (w:World) (hz:Bys w B a len zs) (hy:Bys w B' a' len' ys) :
 Calls Tryz.prog 88 #[.slice a len cap,.slice a' len' cap'] w fun r w'=>r=.returned (.bool (decide (zs=ys)))∧w=w':=by
 have h1:=hz.conv cap;have h2:=hy.conv cap';have HE:=Lib.hid (strOfNums_eq hz.2.1 hy.2.1);clear hz hy;go_enter Tryz.func88,Tryz.ntmps88
 have HB:Hid (((strOfNums zs).toList==(strOfNums ys).toList)=decide (zs=ys)):=Lib.hid (by
  by_cases h:zs=ys
  ·subst h;simp
  ·have h3:¬(strOfNums zs).toList=(strOfNums ys).toList:=fun e=>h (HE.out.1 (k3_toList_inj e));simp [h,h3])
 go_wp2;go_ret;exact ⟨ret_bool HB.out,rfl⟩
def cat (zss:List (List Int)) (k:Nat):List Int:=(zss.take k).flatten
theorem cat_succ {zss:List (List Int)} {k:Nat} (h:k<zss.length):cat zss (k+1)=cat zss k++zss.getD k []:=by
 unfold cat;rw [List.take_succ_eq_append_getElem h,List.flatten_append,List.getD_eq_getElem?_getD,List.getElem?_eq_getElem h];simp
theorem cat_all (zss:List (List Int)):cat zss zss.length=zss.flatten:=by unfold cat;rw [List.take_length]
theorem cat_le (zss:List (List Int)) (k:Nat):(cat zss k).length≤zss.flatten.length:=by
 have:zss.flatten=cat zss k++(zss.drop k).flatten:=by
  unfold cat;rw [←List.flatten_append,List.take_append_drop]
 rw [this,List.length_append];omega
theorem join_ok (B:Nat) (a:Option Addr) (len cap:Nat) (vs:List Value) (zss:List (List Int)) (w:World) (hc:Cel w B a len vs) (hB:B≤w.heap.size) (hl:(len:Int)≤9223372036854775807)
 (hz:zss.length=len) (hv:∀i,i<len→k3_Made (zss.getD i []) (vs.getD i undef) w) (hbd:∀i,i<len→∀n∈zss.getD i [],0≤n∧n≤255) (ht:zss.flatten.length≤1099511627776) (h0:0<zss.flatten.length) :
 Calls Tryz.prog 133 #[.slice a len cap] w fun r w'=>(∃u,r=.returned u∧w'.ownsRow w.heap.size 5 1 u zss.flatten.length (zss.flatten.map (Value.int .u8)))∧Below w.heap.size w w':=by
 obtain ⟨i0,hi,hz0,hz1,hz2⟩:=info_parts info_u8;have HC:=Lib.hid hc;have HV:=Lib.hid hv;have HBD:=Lib.hid hbd;have HZ:=Lib.hid hz;have HT:=Lib.hid ht;have HP:=Lib.hid h0;have HI:=Lib.hid hi;have HZ0:=Lib.hid hz0;have HZ1:=Lib.hid hz1;have HZ2:=Lib.hid hz2;clear hc hv hbd hz ht h0 hi hz0 hz1 hz2;go_enter Tryz.func133,Tryz.ntmps133
 go_wp2_with (at_make;refine wpList_make_own _ rfl _ _ 22 rfl w.heap.size 5 i0 (.int .u8 0) 1 Tryz.underlying22 HI.out HZ0.out HZ1.out .i64 .i64 _ 64 rfl rfl rfl ?c1 ?c2 ?c3 ?_);case c1=>rw [HZ2.out];omega
 case c2=>unfold maxLen;omega
 case c3=>exact Nat.le_refl _
 intro w1 hown hg;have hb1:Below w.heap.size w w1:=(Below.refl _ _).grown hg (Nat.le_refl _) (fun _ e=>by cases e);have HOWN:=Lib.hid hown;clear hown hg;go_wp2;go_loopw [3,5,9] (fun v _ i wr=>∃k:Nat,k≤len∧i=.int .i64 k∧wr.ownsRow w.heap.size 5 1 v (cat zss k).length ((cat zss k).map (Value.int .u8))∧Below w.heap.size w wr) (fun _ _ i _=>len-(intOf i).toNat)
 case atStart=>exact ⟨0,Nat.zero_le _,rfl,HOWN.out,hb1⟩
 case round=>
  obtain ⟨k,hk,rfl,hown,hbel⟩:=hrel;by_cases hlt:k<len
  ·obtain ⟨b,off,rfl,hbB,hcell⟩:=HC.out.2 (by omega);obtain ⟨g,c,hvk,_,_,hby⟩:=HV.out k hlt;have hc:=(hbel.cell (p:=⟨b,off+k,none⟩) (by show b<_;omega)).trans (hcell k hlt);have hvl:k<vs.length:=by have:=HC.out.1;omega
   rw [List.getD_eq_getElem?_getD,List.getElem?_eq_getElem hvl] at hvk;simp only [Option.getD_some] at hvk;rw [List.getElem?_eq_getElem hvl,hvk] at hc;have hcs:=Lib.hid (cat_succ (zss:=zss) (k:=k) (by have:=HZ.out;omega));have hle:=Lib.hid (cat_le zss (k+1));have hb2:=hby.below hbel;generalize zss.getD k []=zs at hcs hc hb2;have HSRC:Hid (∀(j:Nat) (v:Value),(zs.map (Value.int .u8))[j]?=some v→wr.cell? ((⟨g,0,none⟩:Addr).add j)=some v):=Lib.hid (by
    intro j v hj;have hj':j<zs.length:=by
     rcases Nat.lt_or_ge j zs.length with h | h
     ·exact h
     ·rw [List.getElem?_eq_none (by simpa using h)] at hj;cases hj
    obtain ⟨b',off',e,_,hcc⟩:=hb2.2.2 (by omega);injection e with e;injection e with e1 e2;subst e1;subst e2;exact Bys.src hb2.1 hcc j v hj)
   have HOW:=Lib.hid hown;have hsum:Hid ((cat zss k).length+zs.length=(cat zss (k+1)).length):=Lib.hid (by rw [hcs.out,List.length_append]);have hsz:=hbel.size;clear hcell hvk hby hb2 hown hvl;go_wp2_with (at_builtin;refine wpList_append_own _ rfl _ _ 22 rfl w.heap.size 5 i0 (.int .u8 0) 1 1 Tryz.underlying22 HI.out HZ0.out HZ1.out HZ2.out rfl (by decide) _ (cat zss k).length _ rfl HOW.out ⟨g,0,none⟩ zs.length c (zs.map (Value.int .u8)) rfl ?c1 HSRC.out ?c2 ?c3 ?c4 ?c5 ?_);case c1=>rw [List.length_map];omega
   case c2=>exact one_u8 zs
   case c3=>unfold maxLen;have:=hsum.out;have:=hle.out;have:=HT.out;omega
   case c4=>have:=hsum.out;have:=hle.out;have:=HT.out;omega
   case c5=>exact hsz
   intro v' w2 hown2 hg2 hnil2;have hb2:Below w.heap.size w w2:=hbel.grown hg2 hsz (fun q e=>(HOW.out.lt q e).1);have HO2:Hid (w2.ownsRow w.heap.size 5 1 v' (cat zss (k+1)).length ((cat zss (k+1)).map (Value.int .u8))):=Lib.hid (by
    rw [←hsum.out,hcs.out,List.map_append];exact hown2)
   clear hown2 hg2 hnil2 hc hbel;go_wp2;go_roundw
   case rel=>exact ⟨k+1,by omega,by go_num,HO2.out,hb2⟩
   case measure=>simp [intOf];omega
  ·obtain rfl:k=len:=by omega
   have HF:Hid (cat zss k=zss.flatten):=Lib.hid (by rw [←HZ.out,cat_all]);rw [HF.out] at hown;have HM:=Lib.hid hown;clear hown;go_wp2;go_ret;exact ⟨⟨_,rfl,HM.out⟩,hbel⟩
end Go.Proofs.YtclgbdfkdbbinaaGreat
