/-
  What is proved here: words and contracts, a part of those that the statement rests on (B6).
  Conditions: none but that the arguments are values of their types.
-/
import Derived.Test.YtclgbdfkdbbinaaGreatB0
import Derived.Test.YtclgbdfkdbbinaaGreatB3
import Derived.Test.YtclgbdfkdbbinaaGreatB1
import Derived.Test.YtclgbdfkdbbinaaGreatB4
import Derived.Test.YtclgbdfkdbbinaaGreatB5
import Derived.Deep.Cut
import Derived.Deep.CutBlock
import Derived.Deep.DeepCutAuto
set_option linter.unusedVariables false
set_option linter.unusedSimpArgs false
set_option maxRecDepth 100000
set_option maxHeartbeats 12800000
namespace Go.Proofs.YtclgbdfkdbbinaaGreat
open Go.RowKit
def nm (L:List ByteArray) (i:Nat):ByteArray:=L.getD i .empty
def lI (L:List ByteArray) (k:Nat) (s:ByteArray):Prop:=s=.empty∨∃i,i<k∧nm L i=s
def aJ (L:List ByteArray) (s:ByteArray):Nat→Nat
 | 0=>0
 | k+1=>if aJ L s k<k then aJ L s k else if nm L k=s then k else k+1
theorem ll (L:List ByteArray) (s:ByteArray):∀k,aJ L s k≤k
 | 0=>lZr _
 | k+1=>by
   have:=ll L s k;unfold aJ;split
   ·omega
   ·split<;>omega
theorem eC {L:List ByteArray} {s:ByteArray}:∀{k:Nat},aJ L s k<k→nm L (aJ L s k)=s∧∀i,i<aJ L s k→nm L i≠s
 | 0,h=>absurd h (Nat.not_lt_zero _)
 | k+1,h=>by
   by_cases h1:aJ L s k<k
   ·have e:aJ L s (k+1)=aJ L s k:=by simp [aJ,h1]
    rw [e];exact eC h1
   ·have miss:∀k,¬aJ L s k<k→∀i,i<k→nm L i≠s:=by
     intro k;induction k with
     | zero=>intro _ i hi;omega
     | succ k ih=>
       intro hk i hi;by_cases h2:aJ L s k<k
       ·exact absurd (by simp [aJ,h2];omega) hk
       ·by_cases h3:nm L k=s
        ·exact absurd (by simp [aJ,h2,h3]) hk
        ·rcases Nat.lt_succ_iff_lt_or_eq.1 hi with h | rfl
         ·exact ih h2 i h
         ·exact h3
    by_cases h3:nm L k=s
    ·have e:aJ L s (k+1)=k:=by simp [aJ,h1,h3]
     rw [e];exact ⟨h3,miss k h1⟩
    ·exact absurd h (by simp [aJ,h1,h3])
theorem ge {L:List ByteArray} {s:ByteArray} {k:Nat} (h:¬aJ L s k<k):∀i,i<k→nm L i≠s:=by
 induction k with
 | zero=>intro i hi;omega
 | succ k ih=>
   intro i hi;by_cases h2:aJ L s k<k
   ·exact absurd (by simp [aJ,h2];omega) h
   ·by_cases h3:nm L k=s
    ·exact absurd (by simp [aJ,h2,h3]) h
    ·rcases Nat.lt_succ_iff_lt_or_eq.1 hi with h4 | rfl
     ·exact ih h2 i h4
     ·exact h3
theorem jc {L:List ByteArray} {s:ByteArray} {k m:Nat} (h:aJ L s k<k) (hm:k≤m):aJ L s m=aJ L s k:=by
 induction m with
 | zero=>omega
 | succ m ih=>
   rcases Nat.le_or_eq_of_le_succ hm with h1 | rfl
   ·have:=ih h1;simp [aJ,this,show aJ L s k<m from by omega]
   ·rfl
theorem mW {L:List ByteArray} {s:ByteArray} {k m:Nat} (h:∀i,i<k→nm L i≠s) (hk:nm L k=s) (hm:k<m):aJ L s m=k:=by
 have h1:¬aJ L s k<k:=fun hl=>h _ hl (eC hl).1;have h2:aJ L s (k+1)=k:=by simp [aJ,h1,hk]
 rw [jc (k:=k+1) oZm oZm,h2]
def dI (L:List ByteArray) (k:Nat) (s:ByteArray):Bool:=decide (s=.empty) || decide (aJ L s k<k)
theorem br (L:List ByteArray) (k:Nat) (s:ByteArray):dI L k s=true↔lI L k s:=by
 unfold dI lI;simp only [Bool.or_eq_true,decide_eq_true_eq];constructor
 ·rintro (h | h)
  ·exact .inl h
  ·exact .inr ⟨_,h,(eC h).1⟩
 ·rintro (h | ⟨i,h1,h2⟩)
  ·exact .inl h
  ·refine .inr ?_;rcases Nat.lt_or_ge (aJ L s k) k with h3 | h3
   ·exact h3
   ·exact absurd h2 (ge oZm i h1)
theorem gr (L:List ByteArray) (k:Nat) (s:ByteArray):dI L (k+1) s=(dI L k s || decide (nm L k=s)):=by
 rw [Bool.eq_iff_iff,Bool.or_eq_true,br,br,decide_eq_true_eq];unfold lI;constructor
 ·rintro (h | ⟨i,h1,h2⟩)
  ·exact .inl (.inl h)
  ·rcases Nat.lt_succ_iff_lt_or_eq.1 h1 with h3 | rfl
   ·exact .inl (.inr ⟨i,h3,h2⟩)
   ·exact .inr h2
 ·rintro ((h | ⟨i,h1,h2⟩) | h)
  ·exact .inl h
  ·exact .inr ⟨i,by omega,h2⟩
  ·exact .inr ⟨k,by omega,h⟩
def tab (L:List ByteArray):Nat→List Int
 | 0=>[0]
 | k+1=>if dI L k (nm L k) then tab L k else tab L k++(bs (nm L k)++[0])
theorem iZ {L:List ByteArray} {k:Nat} (h:dI L k (nm L k)=true):tab L (k+1)=tab L k:=by simp [tab,h]
theorem ms {L:List ByteArray} {k:Nat} (h:dI L k (nm L k)=false):tab L (k+1)=tab L k++(bs (nm L k)++[0]):=by simp [tab,h]
theorem lj (L:List ByteArray):∀k,∀n∈tab L k,0≤n∧n≤255
 | 0=>fun n hn=>by
   have h:n=0:=by simpa [tab] using hn
   omega
 | k+1=>by
   unfold tab;split
   ·exact lj L k
   ·intro n hn;simp only [List.mem_append,List.mem_singleton] at hn;rcases hn with h | h | rfl
    ·exact lj L k n h
    ·exact nJ _ n h
    ·decide
theorem iQ (L:List ByteArray) {k m:Nat} (h:k≤m):(tab L k).length≤(tab L m).length:=by
 induction m with
 | zero=>have:k=0:=by omega
         subst this;exact lZr _
 | succ m ih=>
   rcases Nat.le_or_eq_of_le_succ h with h1 | rfl
   ·refine Nat.le_trans (ih h1) ?_;rw [tab];split
    ·exact lZr _
    ·rw [lZa];omega
   ·exact lZr _
theorem uP (L:List ByteArray) (k:Nat):1≤(tab L k).length:=iQ L (Nat.zero_le k)
def pos (L:List ByteArray) (k:Nat) (s:ByteArray):Nat:=if s=.empty then 0 else (tab L (aJ L s k)).length
theorem lZ (L:List ByteArray) (k:Nat):pos L k .empty=0:=by simp [pos]
theorem fT {L:List ByteArray} {k m:Nat} {s:ByteArray} (h:lI L k s) (hm:k≤m):pos L m s=pos L k s:=by
 unfold pos;rcases h with rfl | ⟨i,h1,h2⟩
 ·simp
 ·split
  ·rfl
  ·rcases Nat.lt_or_ge (aJ L s k) k with h3 | h3
   ·rw [jc h3 hm]
   ·exact absurd h2 (ge oZm i h1)
theorem mw {L:List ByteArray} {k:Nat} (h:dI L k (nm L k)=false):pos L (k+1) (nm L k)=(tab L k).length:=by
 have h1:¬lI L k (nm L k):=fun hs=>by rw [(br L k _).2 hs] at h;cases h
 have hne:nm L k≠.empty:=fun e=>h1 (.inl e);unfold pos;rw [if_neg hne,mW (k:=k) (fun i hi e=>h1 (.inr ⟨i,hi,e⟩)) rfl (by omega)]
theorem wX {L:List ByteArray} {k:Nat} {s:ByteArray} (h:lI L k s):pos L k s<(tab L k).length:=by
 unfold pos;split
 ·exact uP L k
 ·rename_i hne;rcases h with h | ⟨i,h1,h2⟩
  ·exact absurd h hne
  ·rcases Nat.lt_or_ge (aJ L s k) k with h3 | h3
   ·have hm:=iQ L (k:=aJ L s k+1) (m:=k) oZm;have hh:=eC h3;have hn:dI L (aJ L s k) (nm L (aJ L s k))=false:=by
     rw [Bool.eq_false_iff];intro hs;rcases (br _ _ _).1 hs with h4 | ⟨j,h4,h5⟩
     ·exact hne (hh.1▸h4)
     ·exact hh.2 j h4 (by rw [h5,hh.1])
    rw [ms hn,lZa,lZa] at hm;simp at hm;omega
   ·exact absurd h2 (ge oZm i h1)
def eO (L:List ByteArray):Nat→List Int
 | 0=>[]
 | k+1=>eO L k++[(pos L (k+1) (nm L k):Int)]
theorem fR (L:List ByteArray):∀k,(eO L k).length=k
 | 0=>rfl
 | k+1=>by rw [eO,lZa,fR L k];rfl
theorem ju (L:List ByteArray):∀{k i:Nat},i<k→(eO L k).getD i 0=(pos L k (nm L i):Int)
 | 0,i,h=>absurd h (Nat.not_lt_zero _)
 | k+1,i,h=>by
   rw [eO];rcases Nat.lt_succ_iff_lt_or_eq.1 h with h1 | rfl
   ·have e:(eO L k++[(pos L (k+1) (nm L k):Int)]).getD i 0=(eO L k).getD i 0:=by
     rw [gZe,gZe,List.getElem?_append_left (by rw [fR];exact h1)]
    rw [e,ju L h1,fT (k:=k) (m:=k+1) (.inr ⟨i,h1,rfl⟩) (by omega)]
   ·rw [gZe,List.getElem?_append_right (by rw [fR];exact lZr _),fR,Nat.sub_self];rfl
def mh (L:List ByteArray):Prop:=∀i,i<L.length→eq (bs (nm L i))
theorem nt (L:List ByteArray):mh L∨∃i k,i<L.length∧(∀j,j<i→eq (bs (nm L j)))∧cV (bs (nm L i)) k:=by
 have h:∀m,(∀i,i<m→eq (bs (nm L i)))∨∃i k,i<m∧(∀j,j<i→eq (bs (nm L j)))∧cV (bs (nm L i)) k:=by
  intro m;induction m with
  | zero=>exact .inl fun i hi=>absurd hi (Nat.not_lt_zero _)
  | succ m ih=>
    rcases ih with h | ⟨i,k,h1,h2⟩
    ·rcases ji (bs (nm L m)) with h3 | ⟨k,h3⟩
     ·refine .inl fun i hi=>?_;rcases Nat.lt_succ_iff_lt_or_eq.1 hi with h4 | rfl
      ·exact h i h4
      ·exact h3
     ·exact .inr ⟨m,k,by omega,h,h3⟩
    ·exact .inr ⟨i,k,by omega,h2⟩
 exact h L.length
theorem nk (L:List ByteArray) (M:Nat) (hM:∀i,(nm L i).size≤M):∀k,(tab L k).length≤1+k*(M+1)
 | 0=>by simp [tab]
 | k+1=>by
   have ih:=nk L M hM k;have h1:=hM k;have h2:(k+1)*(M+1)=k*(M+1)+(M+1):=by rw [Nat.succ_mul]
   rw [tab];split
   ·omega
   ·rw [lZa,lZa,jr];simp only [List.length_singleton];omega
end Go.Proofs.YtclgbdfkdbbinaaGreat
namespace Go.Proofs.YtclgbdfkdbbinaaGreat
open Go.RowKit Go.WideMaps Go.Maps
theorem iV:Keyed Tryz.prog 9:=string_keyed Tryz.underlying9
theorem kV (w:World):(zeroValue 24).run Tryz.prog w=.ok (.int .u64 0) w:=by kernel_rfl
theorem jf {H:Type} {P:Program} (w:World) {ops:Array Oper} {rest:List Oper} {o:Oper} {a:Act} {Q:Exit→Act→World→Prop}
 (hg:o.guard=none) (m x v:Operand) (t:TypeId) (hop:o.op=Op.insert t m x v)
 (k e:TypeId) (K:Keyed P k) (ht:P.underlying t=some (.map k e)) (R:Value→Option (DataW H×List MemPlace)) (b n:Nat) (D:DataW H)
 (hm:a.eval m=.map (some b)) (hown:w.ownsMap P k R b n D) (hn:n<maxLen) (key val:Value) (kl:Lit) (hx:a.eval x=key) (hv:a.eval v=val) (hkey:keyOf P k key=some kl)
 (d:DataW H) (ps:List MemPlace) (hval:R val=some (d,ps))
 (hK:∀w',w'.ownsMap P k R b (n+1) (D.put kl d)→w.grownBy w' (some b)→wpList P ops Q rest (a.put o.dst undef) w') :
 wpList P ops Q (o :: rest) a w:=by
 refine wpList_plain hg fun K' hK'=>?_;obtain ⟨w',hrun,r1,r2⟩:=hown.update K ht hn hkey hval;unfold Oper.wp;simp [execOp,hop,hm,hx,hv,hrun,Result.andThen]
 exact hK' _ _ (hK w' r1 r2)
theorem dl {w:World} {b1 b2 n m:Nat} {e1 e2:TypeId} {v u:Value} {xs ys:List Value} (h:w.ownsRow b1 e1 1 v n xs) (k:w.ownsRow b2 e2 1 u m ys) (hne:e1≠e2):v.ownBlock=none∨v.ownBlock≠u.ownBlock:=by
 rcases h.2 with ⟨rfl,_⟩ | ⟨g,c,cur,rfl,_,hg,_⟩
 ·exact .inl rfl
 ·rcases k.2 with ⟨rfl,_⟩ | ⟨g',c',cur',rfl,_,hg',_⟩
  ·exact .inr (by simp [Value.ownBlock])
  ·refine .inr fun e=>?_;simp only [Value.ownBlock,Option.some.injEq] at e;subst e;rw [hg] at hg';injection hg' with hg';injection hg' with _ e2;exact hne e2
theorem eW {H:Type} {P:Program} {k:TypeId} {R:Value→Option (DataW H×List MemPlace)} {D:DataW H} {w:World} {b1 b n m:Nat} {e1:TypeId} {v:Value} {xs:List Value} (h:w.ownsRow b1 e1 1 v n xs) (hm:w.ownsMap P k R b m D):v.ownBlock≠some b:=by
 rcases h.2 with ⟨rfl,_⟩ | ⟨g,c,cur,rfl,_,hg,_⟩
 ·simp [Value.ownBlock]
 ·intro e;simp only [Value.ownBlock,Option.some.injEq] at e;subst e;obtain ⟨es,clock,hb,_⟩:=hm;rw [hg] at hb;cases hb
def key (s:ByteArray):Lit:=.string s.data.toList
theorem qj {s t:ByteArray} (h:key s=key t):s=t:=by
 unfold key at h;injection h with h;exact ByteArray.ext (Array.ext' h)
def mI (n:Nat):DataW Unit:=.lit (.int .u64 n)
def lV (L:List ByteArray) (k:Nat) (D:DataW Unit):Prop:=
 IsMap D∧∀s:ByteArray,Maps.has D (key s)=dI L k s∧(lI L k s→D.atKey (key s) (mI 0)=mI (pos L k s))
theorem qi (s:ByteArray):WideAt.IsKeyLit (key s):=by simp [key,WideAt.IsKeyLit]
theorem oI (L:List ByteArray):lV L 0 ((DataW.map []).put (key .empty) (mI 0)):=by
 refine ⟨isMap_empty.put _ _,fun s=>?_⟩;by_cases hs:s=.empty
 ·subst hs;refine ⟨?_,fun _=>?_⟩
  ·rw [has_put_same isMap_empty (qi _),(br L 0 _).2 (.inl rfl)]
  ·rw [atKey_put_same isMap_empty (qi _),lZ]
 ·have hne:key s≠key .empty:=fun e=>hs (qj e);have hns:¬lI L 0 s:=fun h=>h.elim hs (fun ⟨i,h,_⟩=>absurd h (Nat.not_lt_zero _));refine ⟨?_,fun h=>absurd h hns⟩;rw [has_put_other hne,Bool.eq_false_iff.2 (fun h=>hns ((br L 0 s).1 h))];rfl
theorem pm {L:List ByteArray} {k:Nat} {D:DataW Unit} (h:lV L k D) (hs:dI L k (nm L k)=true):lV L (k+1) D:=by
 refine ⟨h.1,fun s=>?_⟩;by_cases he:nm L k=s
 ·subst he;refine ⟨by rw [gr,(h.2 _).1,hs];rfl,fun _=>?_⟩;have h1:=(br _ _ _).1 hs;rw [(h.2 _).2 h1,fT (m:=k+1) h1 (by omega)]
 ·have e:dI L (k+1) s=dI L k s:=by rw [gr];simp [he]
  refine ⟨by rw [e,(h.2 s).1],fun h1=>?_⟩;have h2:lI L k s:=(br _ _ _).1 (e▸(br _ _ _).2 h1);rw [(h.2 s).2 h2,fT (m:=k+1) h2 (by omega)]
theorem rG {L:List ByteArray} {k:Nat} {D:DataW Unit} (h:lV L k D) (hs:dI L k (nm L k)=false):lV L (k+1) (D.put (key (nm L k)) (mI (tab L k).length)):=by
 refine ⟨h.1.put _ _,fun s=>?_⟩;by_cases he:nm L k=s
 ·subst he;refine ⟨by rw [has_put_same h.1 (qi _),gr];simp,fun _=>?_⟩;rw [atKey_put_same h.1 (qi _),mw hs]
 ·have hne:key s≠key (nm L k):=fun e=>he (qj e).symm;have e:dI L (k+1) s=dI L k s:=by rw [gr];simp [he]
  refine ⟨by rw [has_put_other hne,e,(h.2 s).1],fun h1=>?_⟩;have h2:lI L k s:=(br _ _ _).1 (e▸(br _ _ _).2 h1);rw [atKey_put_other hne,(h.2 s).2 h2,fT (m:=k+1) h2 (by omega)]
theorem tT {n:Nat} {c:Int} (h:mI n=.lit (.int .u64 c)):c=(n:Int):=by
 unfold mI at h;injection h with h;injection h with h1 h2;exact h2.symm
theorem uo {s:ByteArray} (h:s.size≤maxLen):keyOf Tryz.prog 9 (.string s)=some (key s):=keyOf_string_mk Tryz.underlying9 h
theorem wf_u64 {n:Nat} (h:n≤65536):(Lit.int .u64 (n:Int)).wf=true:=by
 simp [Lit.wf,IntKind.min,IntKind.max,IntKind.signed,IntKind.bits];omega
theorem pE (B:Nat) (a:Option Addr) (len cap:Nat) (L:List ByteArray) (w:World) (hs:du w B a len L) (hl:(len:Int)≤9223372036854775807) (hc:mh L) :
 Calls Tryz.prog 66 #[.slice a len cap] w fun e w'=>e=.returned (.bool false)∧w=w':=by
 have HS:=hZz hs;have HC:=hZz hc;clear hs hc;go_enter Tryz.func66,Tryz.ntmps66
 go_wp2;go_loop [7] (fun i=>∃k:Nat,k≤len∧i=.int .i64 k) (fun i=>len-(intOf i).toNat)
 case atStart=>exact ⟨0,Nat.zero_le _,rfl⟩
 case round=>
  obtain ⟨k,hk,rfl⟩:=hrel;by_cases hlt:k<len
  ·obtain ⟨b,off,rfl,_,hcell⟩:=HS.out.2 oZm;obtain ⟨s,hsn⟩:∃s,s=L.getD k .empty:=⟨_,rfl⟩
   have hc:=hcell k hlt;rw [←hsn] at hc;have HI:Hid (Lib.indexByte s.data.toList 0=-1):=hZz (by
    have:=HC.out k (by have:=HS.out.1;omega);rw [←fM,hsn];exact fK (nJ _) this)
   clear hcell hsn;go_wp2_with (go_at_call 121;refine (gP _ _ _ HI.out).mono ?_;rintro e w' ⟨rfl,rfl⟩);go_round
   case rel=>exact ⟨k+1,by omega,by go_num⟩
   case measure=>simp [intOf];omega
  ·obtain rfl:k=len:=by omega
   go_wp2;go_ret;exact ⟨rfl,rfl⟩
theorem nR (B:Nat) (a:Option Addr) (len cap:Nat) (L:List ByteArray) (w:World) (n m:Nat) (hs:du w B a len L) (hl:(len:Int)≤9223372036854775807) (hn:n<len) (hc:∀i,i<n→eq (bs (nm L i))) (hm:cV (bs (nm L n)) m) :
 Calls Tryz.prog 66 #[.slice a len cap] w fun e w'=>e=.returned (.bool true)∧w=w':=by
 obtain ⟨b,off,rfl,_,hcell⟩:=hs.2 oZm;have HC:=hZz hc;have HL:=hZz hcell;have HM:=hZz hm;clear hs hc hcell hm;go_enter Tryz.func66,Tryz.ntmps66
 go_wp2;go_loop [7] (fun i=>∃k:Nat,k≤n∧i=.int .i64 k) (fun i=>len-(intOf i).toNat)
 case atStart=>exact ⟨0,Nat.zero_le _,rfl⟩
 case round=>
  obtain ⟨k,hk,rfl⟩:=hrel;have hkl:k<len:=by omega
  obtain ⟨s,hsn⟩:∃s,s=L.getD k .empty:=⟨_,rfl⟩
  have hc:=HL.out k hkl;rw [←hsn] at hc;by_cases hlt:k<n
  ·have HI:Hid (Lib.indexByte s.data.toList 0=-1):=hZz (by
    rw [←fM,hsn];exact fK (nJ _) (HC.out k hlt))
   clear hsn;go_wp2_with (go_at_call 121;refine (gP _ _ _ HI.out).mono ?_;rintro e w' ⟨rfl,rfl⟩);go_round
   case rel=>exact ⟨k+1,by omega,by go_num⟩
   case measure=>simp [intOf];omega
  ·obtain rfl:k=n:=by omega
   have HI:Hid (Lib.indexByte s.data.toList 0=(m:Int)):=hZz (by
    rw [←fM,hsn];exact gJ (nJ _) HM.out)
   clear hsn;go_wp2_with (go_at_call 121;refine (gP _ _ _ HI.out).mono ?_;rintro e w' ⟨rfl,rfl⟩);go_ret;exact ⟨rfl,rfl⟩
theorem qI (B:Nat) (a:Option Addr) (len cap:Nat) (L:List ByteArray) (w:World) (n m:Nat) (hs:du w B a len L) (hl:(len:Int)≤9223372036854775807) (hn:n<len) (hc:∀i,i<n→eq (bs (nm L i))) (hm:cV (bs (nm L n)) m) :
 Calls Tryz.prog 29 #[.slice a len cap] w fun e w'=>e=.returned (.tuple #[.slice none 0 0,.slice none 0 0,.int .i64 1])∧w=w':=by
 have HC:=hZz hc;have HS:=hZz hs;have HM:=hZz hm;clear hs hc hm;go_enter Tryz.func29,Tryz.ntmps29
 go_wp2_with (go_at_call 66;refine (nR _ _ _ _ _ _ _ _ HS.out hl hn HC.out HM.out).mono ?_;rintro e w' ⟨rfl,rfl⟩);go_ret3;exact ⟨rfl,rfl⟩
def jq (L:List ByteArray) (w:World) (e:Ending) (w':World):Prop:=
 Below w.heap.size w w'∧
 ((65536<(tab L L.length).length∧e=.returned (.tuple #[.slice none 0 0,.slice none 0 0,.int .i64 13]))∨
  ((tab L L.length).length≤65536∧∃ta tc pa pc,e=.returned (.tuple #[.slice ta (tab L L.length).length tc,.slice pa L.length pc,.int .i64 0])∧
   w'.ownsRow w.heap.size 5 1 (.slice ta (tab L L.length).length tc) (tab L L.length).length ((tab L L.length).map (Value.int .u8))∧
   w'.ownsRow w.heap.size 24 1 (.slice pa L.length pc) L.length ((eO L L.length).map (Value.int .u64))))
theorem iN {L:List ByteArray} {w w':World} {k:Nat} {va ua:Option Addr} {vc uc:Nat} (hk:L.length=k) (hbel:Below w.heap.size w w') (ht:(tab L k).length≤65536)
 (hv:w'.ownsRow w.heap.size 5 1 (.slice va (tab L k).length vc) (tab L k).length ((tab L k).map (Value.int .u8)))
 (hu:w'.ownsRow w.heap.size 24 1 (.slice ua k uc) k ((eO L k).map (Value.int .u64))) :
 jq L w (.returned (.tuple #[.slice va (tab L k).length vc,.slice ua k uc,.int .i64 0])) w':=by
 subst hk;exact ⟨hbel,.inr ⟨ht,va,vc,ua,uc,rfl,hv,hu⟩⟩
theorem rN (B:Nat) (a:Option Addr) (len cap:Nat) (L:List ByteArray) (w:World) (hs:du w B a len L) (hB:B≤w.heap.size) (hl:len≤1000000) (hsz:∀i,(nm L i).size≤maxLen) (hc:mh L) :
 Calls Tryz.prog 29 #[.slice a len cap] w (jq L w):=by
 obtain ⟨i0,hi,hz0,hz1,hz2⟩:=info_parts aM;obtain ⟨i1,hj,hy0,hy1,hy2⟩:=info_parts ls;have hli:(len:Int)≤9223372036854775807:=by omega
 have HC:=hZz hc;have HS:=hZz hs;have HSZ:=hZz hsz;have HI:=hZz hi;have HZ0:=hZz hz0;have HZ1:=hZz hz1;have HZ2:=hZz hz2;have HJ:=hZz hj;have HY0:=hZz hy0;have HY1:=hZz hy1;have HY2:=hZz hy2;clear hs hc hsz hi hz0 hz1 hz2 hj hy0 hy1 hy2;have hmm:=@run_makeMap Tryz.prog;have HM0:Hid (((w.alloc (.cells #[.int .u8 0] 5)).alloc (.map #[] 0)).ownsMap (H:=Unit) Tryz.prog 9 (plainElem Tryz.prog 24) (w.heap.size+1) 0 (.map [])):=hZz (by
  have:=World.ownsMap_made (H:=Unit) (w.alloc (.cells #[.int .u8 0] 5)) Tryz.prog 9 (plainElem Tryz.prog 24);simpa using this)
 go_enter Tryz.func29,Tryz.ntmps29
 have HK0:Hid (keyOf Tryz.prog 9 (.string ⟨#[]⟩)=some (key .empty)):=hZz (uo (s:=.empty) dZc);have HV0:Hid (plainElem (H:=Unit) Tryz.prog 24 (.int .u64 0)=some (mI 0,[])):=hZz (plainElem_int Tryz.underlying24 dZc);have hM:0<maxLen:=by unfold maxLen;omega
 go_wp2_with (first | (go_at_call 66;refine (pE _ _ _ _ _ _ HS.out hli HC.out).mono ?_;rintro e w' ⟨rfl,rfl⟩) | (refine jf _ rfl _ _ _ 125 rfl 9 24 iV Tryz.underlying125 _ (w.heap.size+1) 0 _ rfl HM0.out hM (.string ⟨#[]⟩) (.int .u64 0) (key .empty) rfl rfl HK0.out (mI 0) [] HV0.out ?_));intro w1 hm1 hg1;have hb1:Below w.heap.size w w1:=(((Below.refl _ _).alloc (lZr _) _).alloc (by simp) _).grown hg1 (by simp;omega) (fun k e=>by injection e with e;omega);have ht1:w1.ownsRow w.heap.size 5 1 (.slice (some ⟨w.heap.size,0,none⟩) 1 1) 1 ((tab L 0).map (Value.int .u8)):=
  ((jE w w.heap.size 5 [.int .u8 0] (lZr _) dZc).alloc _).kept hg1 (.inr (by simp [Value.ownBlock]))
 have HM1:=hZz hm1;have HT1:=hZz ht1;clear hm1 hg1 ht1;go_wp2_with (at_make;refine wpList_make_own _ rfl _ _ 68 rfl w.heap.size 24 i1 (.int .u64 0) 1 Tryz.underlying68 HJ.out HY0.out HY1.out .i64 .i64 _ len rfl rfl rfl ?c1 ?c2 ?c3 ?_);case c1=>rw [HY2.out];omega
 case c2=>unfold maxLen;omega
 case c3=>exact hb1.size
 intro w2 hu2 hg2;have hb2:Below w.heap.size w w2:=hb1.grown hg2 hb1.size (fun _ e=>by cases e);have HT2:=hZz (HT1.out.kept hg2 (.inr (by intro e;cases e)));have HM2:=hZz (HM1.out.kept hg2 (by intro e;cases e));have HU2:=hZz hu2;clear hu2 hg2 HM1 HT1 hb1 HM0;go_wp2;go_loopw [5,7,22] (fun v u i wr=>∃k:Nat,k≤len∧i=.int .i64 k∧wr.ownsRow w.heap.size 5 1 v (tab L k).length ((tab L k).map (Value.int .u8))∧
  wr.ownsRow w.heap.size 24 1 u k ((eO L k).map (Value.int .u64))∧(tab L k).length≤65536∧(∃D,wr.ownsMap Tryz.prog 9 (plainElem Tryz.prog 24) (w.heap.size+1) (k+1) D∧lV L k D)∧Below w.heap.size w wr) (fun _ _ i _=>len-(intOf i).toNat)
 case atStart=>exact ⟨0,Nat.zero_le _,rfl,HT2.out,HU2.out,by simp [tab],⟨_,HM2.out,oI L⟩,hb2⟩
 case round=>
  obtain ⟨k,hk,rfl,hv,hu,ht,⟨D,hm,hok⟩,hbel⟩:=hrel;obtain ⟨va,vc,rfl⟩:=bF hv;have HV:=hZz hv;have HU:=hZz hu;have HM:=hZz hm;have HOK:=hZz hok;have HT:=hZz ht;clear hv hu hm hok ht;by_cases hlt:k<len
  ·obtain ⟨b,off,rfl,hbB,hcell⟩:=HS.out.2 oZm;obtain ⟨s,hsn⟩:∃s,s=nm L k:=⟨_,rfl⟩
   have hc:wr.cell? ⟨b,off+k,none⟩=some (.string s):=by
    rw [hsn];exact (hbel.cell (p:=⟨b,off+k,none⟩) (by show b<_;omega)).trans (hcell k hlt)
   have hssz:s.size≤maxLen:=by rw [hsn];exact HSZ.out k
   have HKEY:=hZz (uo hssz);have hssi:(s.size:Int)≤9223372036854775807:=by unfold maxLen at hssz;omega
   have HSN:=hZz hsn;clear hcell hsn hssz;cases hseen:dI L k (nm L k) with
   | true=>
     have HSEEN:=hZz hseen;have hhit:Maps.has D (key s)=true:=by rw [HSN.out,(HOK.out.2 _).1];exact hseen
     clear hseen;go_wp2_with (first | (at_lookup;refine wpList_lookup_own_ok_int _ rfl _ _ 125 rfl 9 24 .u64 iV Tryz.underlying125 Tryz.underlying24 (kV _) (w.heap.size+1) (k+1) D rfl HM.out _ _ rfl HKEY.out ?_;intro c hat hwc;rw [hhit]) | (at_builtin;refine wpList_append_own _ rfl _ _ 68 rfl w.heap.size 24 i1 (.int .u64 0) 1 8 Tryz.underlying68 HJ.out HY0.out HY1.out HY2.out rfl dZc _ k _ rfl (HU.out.alloc _) ⟨wr.heap.size,0,none⟩ 1 1 [.int .u64 c] rfl rfl ?c1 ?c2 ?c3 ?c4 ?c5 ?_));case c1=>exact cell_one_new _ _ _
     case c2=>intro u hu;obtain rfl:=List.mem_singleton.1 hu;rfl
     case c3=>unfold maxLen;omega
     case c4=>omega
     case c5=>have:=hbel.size;simp;omega
     intro u' w3 hu3 hg3 hnil3;have hcp:c=(pos L (k+1) (nm L k):Int):=by
      have h1:=(HOK.out.2 s).2 (HSN.out▸(br _ _ _).1 HSEEN.out);have h2:=tT (h1.symm.trans hat);rw [h2,HSN.out,fT (m:=k+1) ((br _ _ _).1 HSEEN.out) (by omega)]
     have HU3:Hid (w3.ownsRow w.heap.size 24 1 u' (k+1) ((eO L (k+1)).map (Value.int .u64))):=hZz (by
      rw [eO,List.map_append,←hcp];exact hu3)
     have HV3:Hid (w3.ownsRow w.heap.size 5 1 (.slice va (tab L (k+1)).length vc) (tab L (k+1)).length ((tab L (k+1)).map (Value.int .u8))):=hZz (by
      rw [iZ HSEEN.out];exact (HV.out.alloc _).kept hg3 (dl HV.out HU.out dZc))
     have HM3:=hZz ((HM.out.alloc (.cells #[.int .u64 c] 24)).kept hg3 (fun e=>eW HU.out HM.out e.symm));have hb3:Below w.heap.size w w3:=(hbel.alloc hbel.size _).grown hg3 (by have:=hbel.size;simp;omega) (fun q e=>(HU.out.lt q e).1);have HTL:Hid ((tab L k).length=(tab L (k+1)).length):=hZz (by rw [iZ HSEEN.out]);clear hcp hu3 hg3 hnil3 hat hwc hhit;go_wp2;go_roundw
     case rel=>exact ⟨k+1,by omega,by go_num,by rw [HTL.out];exact HV3.out,HU3.out,by rw [←HTL.out];exact HT.out,⟨D,HM3.out.mono oZm,pm HOK.out HSEEN.out⟩,hb3⟩
     case measure=>simp [intOf];omega
   | false=>
     have HSEEN:=hZz hseen;have hmiss:Maps.has D (key s)=false:=by rw [HSN.out,(HOK.out.2 _).1];exact hseen
     have HTN:=hZz (ms hseen);have HLN:Hid ((tab L (k+1)).length=(tab L k).length+s.size+1):=hZz (by
      rw [HTN.out,lZa,lZa,jr,HSN.out];rfl)
     have hT:=HT.out;clear hseen;by_cases hov:65536≤(tab L k).length+s.size
     ·have hovi:(65536:Int)-((tab L k).length:Int)≤(s.size:Int):=by omega
      have hlong:Hid (65536<(tab L L.length).length):=hZz (by
       have h1:=iQ L (k:=k+1) (m:=L.length) (by have:=HS.out.1;omega);have:=HLN.out;omega)
      clear hov;go_wp2_with (at_lookup;refine wpList_lookup_own_ok_int _ rfl _ _ 125 rfl 9 24 .u64 iV Tryz.underlying125 Tryz.underlying24 (kV _) (w.heap.size+1) (k+1) D rfl HM.out _ _ rfl HKEY.out ?_;intro c hat hwc;rw [hmiss]);go_ret3;exact ⟨hbel,.inl ⟨hlong.out,rfl⟩⟩
     ·have hovi:(s.size:Int)<(65536:Int)-((tab L k).length:Int):=by omega
      have HVAL:Hid (plainElem (H:=Unit) Tryz.prog 24 (.int .u64 ((tab L k).length:Int))=some (mI (tab L k).length,[])):=hZz (plainElem_int Tryz.underlying24 (wf_u64 hT));have hkm:k+1<maxLen:=by unfold maxLen;omega
      go_wp2_with (first | (at_lookup;refine wpList_lookup_own_ok_int _ rfl _ _ 125 rfl 9 24 .u64 iV Tryz.underlying125 Tryz.underlying24 (kV _) (w.heap.size+1) (k+1) D rfl HM.out _ _ rfl HKEY.out ?_;intro c hat hwc;rw [hmiss]) | (at_mapUpdate;refine wpList_mapUpdate_own _ rfl _ _ _ 125 rfl 9 24 iV Tryz.underlying125 _ (w.heap.size+1) (k+1) D rfl HM.out hkm _ _ _ rfl rfl HKEY.out _ [] HVAL.out ?_));intro w3 hm3 hg3;have hb3:Below w.heap.size w w3:=hbel.grown hg3 hbel.size (fun q e=>by injection e with e;omega);have HM3:=hZz hm3;have HV3:=hZz (HV.out.kept hg3 (.inr (eW HV.out HM.out)));have HU3:=hZz (HU.out.kept hg3 (.inr (eW HU.out HM.out)));clear hm3 hg3 hat hwc hmiss hkm HVAL;go_wp2_with (at_builtin;refine Lib.wpList_append_own_string _ rfl _ _ 22 9 rfl w.heap.size 5 i0 Tryz.underlying22 Tryz.underlying9 HI.out HZ0.out HZ1.out HZ2.out _ (tab L k).length _ rfl HV3.out s rfl ?c1 ?c2 ?c3 ?_);case c1=>unfold maxLen;omega
      case c2=>omega
      case c3=>exact hb3.size
      intro v4 w4 hv4 hg4 hnil4;rw [nv,←List.map_append] at hv4;have hb4:Below w.heap.size w w4:=hb3.grown hg4 hb3.size (fun q e=>(HV3.out.lt q e).1);have HV4:=hZz hv4;have HU4:=hZz (HU3.out.kept hg4 (dl HU3.out HV3.out dZc));have HM4:=hZz (HM3.out.kept hg4 (fun e=>eW HV3.out HM3.out e.symm));obtain ⟨va4,vc4,rfl⟩:=bF hv4;clear hv4 hg4 hnil4;go_wp2_with (at_builtin;refine wpList_append_own _ rfl _ _ 22 rfl w.heap.size 5 i0 (.int .u8 0) 1 1 Tryz.underlying22 HI.out HZ0.out HZ1.out HZ2.out rfl dZc _ ((tab L k).length+s.size) _ rfl (HV4.out.alloc _) ⟨w4.heap.size,0,none⟩ 1 1 [.int .u8 0] rfl rfl ?d1 ?d2 ?d3 ?d4 ?d5 ?_);case d1=>exact cell_one_new _ _ _
      case d2=>intro u hu;obtain rfl:=List.mem_singleton.1 hu;rfl
      case d3=>unfold maxLen;omega
      case d4=>omega
      case d5=>have:=hb4.size;simp;omega
      intro v5 w5 hv5 hg5 hnil5;have hb5:Below w.heap.size w w5:=(hb4.alloc hb4.size _).grown hg5 (by have:=hb4.size;simp;omega) (fun q e=>(HV4.out.lt q e).1);have HV5:Hid (w5.ownsRow w.heap.size 5 1 v5 (tab L (k+1)).length ((tab L (k+1)).map (Value.int .u8))):=hZz (by
       rw [HLN.out,HTN.out,←HSN.out,List.map_append,List.map_append];exact hv5)
      have HU5:=hZz ((HU4.out.alloc (.cells #[.int .u8 0] 5)).kept hg5 (dl HU4.out HV4.out dZc));have HM5:=hZz ((HM4.out.alloc (.cells #[.int .u8 0] 5)).kept hg5 (fun e=>eW HV4.out HM4.out e.symm));clear hv5 hg5 hnil5;go_wp2_with (at_builtin;refine wpList_append_own _ rfl _ _ 68 rfl w.heap.size 24 i1 (.int .u64 0) 1 8 Tryz.underlying68 HJ.out HY0.out HY1.out HY2.out rfl dZc _ k _ rfl (HU5.out.alloc _) ⟨w5.heap.size,0,none⟩ 1 1 [.int .u64 ((tab L k).length:Int)] rfl rfl ?e1 ?e2 ?e3 ?e4 ?e5 ?_);case e1=>exact cell_one_new _ _ _
      case e2=>intro u hu;obtain rfl:=List.mem_singleton.1 hu;rfl
      case e3=>unfold maxLen;omega
      case e4=>omega
      case e5=>have:=hb5.size;simp;omega
      intro u6 w6 hu6 hg6 hnil6;have hb6:Below w.heap.size w w6:=(hb5.alloc hb5.size _).grown hg6 (by have:=hb5.size;simp;omega) (fun q e=>(HU5.out.lt q e).1);have HU6:Hid (w6.ownsRow w.heap.size 24 1 u6 (k+1) ((eO L (k+1)).map (Value.int .u64))):=hZz (by
       rw [eO,List.map_append,mw HSEEN.out];exact hu6)
      have HV6:=hZz ((HV5.out.alloc (.cells #[.int .u64 ((tab L k).length:Int)] 24)).kept hg6 (dl HV5.out HU5.out dZc));have HM6:=hZz ((HM5.out.alloc (.cells #[.int .u64 ((tab L k).length:Int)] 24)).kept hg6 (fun e=>eW HU5.out HM5.out e.symm));have HT6:Hid ((tab L (k+1)).length≤65536):=hZz (by rw [HLN.out];omega);clear hu6 hg6 hnil6;go_wp2;go_roundw
      case rel=>exact ⟨k+1,by omega,by go_num,HV6.out,HU6.out,HT6.out,⟨_,by rw [←HSN.out] at *;exact HM6.out,by rw [HSN.out];exact rG HOK.out HSEEN.out⟩,hb6⟩
      case measure=>simp [intOf];omega
  ·obtain rfl:k=len:=by omega
   obtain ⟨ua,uc,rfl⟩:=bF HU.out;have HLL:Hid (L.length=k):=hZz HS.out.1;go_wp2;go_ret3;exact iN HLL.out hbel HT.out HV.out HU.out
theorem iG {s:ByteArray} {j:Nat} (h:j<s.size) (hz:(bs s).getD j 0≠0):((s[j]'h).toNat:Int)≠0:=by
 rw [lh h] at hz;exact hz
theorem oZ {s:ByteArray} {j:Nat} (h:j<s.size) (hz:(bs s).getD j 0=0):((s[j]'h).toNat:Int)=0:=by
 rw [lh h] at hz;exact hz
theorem oE (B:Nat) (a:Option Addr) (len cap:Nat) (L:List ByteArray) (w:World) (n m:Nat) (hs:du w B a len L) (hl:(len:Int)≤9223372036854775807) (hsz:∀i,(nm L i).size≤maxLen) (hn:n<len) (hc:∀i,i<n→eq (bs (nm L i))) (hm:cV (bs (nm L n)) m) :
 Calls Tryz.prog 35 #[.slice a len cap] w fun e w'=>e=.returned (.tuple #[.slice none 0 0,.slice none 0 0,.int .i64 1])∧w=w':=by
 obtain ⟨b,off,rfl,_,hcell⟩:=hs.2 oZm;have HC:=hZz hc;have HL:=hZz hcell;have HM:=hZz hm;have HSZ:=hZz hsz;clear hs hc hcell hm hsz;go_enter Tryz.func35,Tryz.ntmps35
 go_wp2;go_loop [6] (fun i=>∃k:Nat,k≤n∧i=.int .i64 k) (fun i=>len-(intOf i).toNat)
 case atStart=>exact ⟨0,Nat.zero_le _,rfl⟩
 case round=>
  obtain ⟨k,hk,rfl⟩:=hrel;have hkl:k<len:=by omega
  obtain ⟨s,hsn⟩:∃s,s=nm L k:=⟨_,rfl⟩
  have hc:w.cell? ⟨b,off+k,none⟩=some (.string s):=hsn▸HL.out k hkl;have hss:(s.size:Int)≤9223372036854775807:=by have:=HSZ.out k;rw [hsn];unfold maxLen at this;omega
  by_cases hlt:k<n
  ·have HNZ:Hid (eq (bs s)):=hZz (hsn▸HC.out k hlt);clear hsn;go_wp2;go_loop [7] (fun i=>∃j:Nat,j≤s.size∧i=.int .i64 j) (fun i=>s.size-(intOf i).toNat)
   case atStart=>exact ⟨0,Nat.zero_le _,rfl⟩
   case round=>
    obtain ⟨j,hj,rfl⟩:=hrel;by_cases hjs:j<s.size
    ·have hne:=iG hjs (HNZ.out j (by rw [jr];exact hjs));go_wp2;go_round
     case rel=>exact ⟨j+1,by omega,by go_num⟩
     case measure=>simp [intOf];omega
    ·obtain rfl:j=s.size:=by omega
     go_wp2;go_round
     case rel=>exact ⟨k+1,by omega,by go_num⟩
     case measure=>simp [intOf];omega
  ·obtain rfl:k=n:=by omega
   have HFZ:Hid (cV (bs s) m):=hZz (hsn▸HM.out);have hms:m<s.size:=by have:=HFZ.out.1;rwa [jr] at this
   clear hsn;go_wp2;go_loop [7] (fun i=>∃j:Nat,j≤m∧i=.int .i64 j) (fun i=>s.size-(intOf i).toNat)
   case atStart=>exact ⟨0,Nat.zero_le _,rfl⟩
   case round=>
    obtain ⟨j,hj,rfl⟩:=hrel;have hjs:j<s.size:=by omega
    by_cases hjm:j<m
    ·have hne:=iG hjs (HFZ.out.2.2 j hjm);go_wp2;go_round
     case rel=>exact ⟨j+1,by omega,by go_num⟩
     case measure=>simp [intOf];omega
    ·obtain rfl:j=m:=by omega
     have heq:=oZ hjs HFZ.out.2.1;go_wp2;go_ret3;exact ⟨rfl,rfl⟩
theorem iJ {zs:List Int} {i:Nat} (h:i<zs.length):(zs.map (Value.int .u64))[i]?=some (.int .u64 (zs.getD i 0)):=by
 rw [List.getElem?_map,gZg h,gZe,gZg h];rfl
theorem iu {s t:ByteArray} (h:s.toList=t.toList):s=t:=by
 rw [Lib.toList_data,Lib.toList_data] at h;exact ByteArray.ext (Array.ext' h)
theorem lM {s t:ByteArray} (h:s≠t):(s.toList==t.toList)=false:=by
 rw [beq_eq_false_iff_ne];exact fun e=>h (iu e)
theorem iR:ByteArray.empty.toList=[]:=by rw [Lib.toList_data];rfl
theorem oi {s:ByteArray} (h:s≠.empty):s.toList.isEmpty=false:=by
 rw [List.isEmpty_eq_false_iff];exact fun e=>h (iu (by rw [e,iR]))
theorem pu (B:Nat) (a:Option Addr) (len cap:Nat) (L:List ByteArray) (w:World) (hs:du w B a len L) (hB:B≤w.heap.size) (hl:len≤1000000) (hsz:∀i,(nm L i).size≤1000000) (hc:mh L) :
 Calls Tryz.prog 35 #[.slice a len cap] w (jq L w):=by
 obtain ⟨i0,hi,hz0,hz1,hz2⟩:=info_parts aM;obtain ⟨i1,hj,hy0,hy1,hy2⟩:=info_parts ls;have hli:(len:Int)≤1000000:=by omega
 have HC:=hZz hc;have HS:=hZz hs;have HSZ:=hZz hsz;have HI:=hZz hi;have HZ0:=hZz hz0;have HZ1:=hZz hz1;have HZ2:=hZz hz2;have HJ:=hZz hj;have HY0:=hZz hy0;have HY1:=hZz hy1;have HY2:=hZz hy2;have HLEN:=hZz hs.1;have HTS:Hid (∀k,k≤1000000→(tab L k).length≤1000002000001):=hZz (fun k hk=>by
  have:=nk L 1000000 hsz k;have h2:k*(1000000+1)≤1000000*(1000000+1):=Nat.mul_le_mul_right _ hk;omega)
 clear hs hc hsz hi hz0 hz1 hz2 hj hy0 hy1 hy2;go_enter Tryz.func35,Tryz.ntmps35
 go_wp2;go_loop [6] (fun i=>∃k:Nat,k≤len∧i=.int .i64 k) (fun i=>len-(intOf i).toNat)
 case atStart=>exact ⟨0,Nat.zero_le _,rfl⟩
 case round=>
  obtain ⟨k,hk,rfl⟩:=hrel;by_cases hlt:k<len
  ·obtain ⟨b,off,rfl,hbB,hcell⟩:=HS.out.2 oZm;obtain ⟨s,hsn⟩:∃s,s=nm L k:=⟨_,rfl⟩
   have hc:w.cell? ⟨b,off+k,none⟩=some (.string s):=hsn▸hcell k hlt;have hss:(s.size:Int)≤1000000:=by have:=HSZ.out k;rw [hsn];omega
   have HNZ:Hid (eq (bs s)):=hZz (hsn▸HC.out k (by rw [HLEN.out];exact hlt));clear hsn hcell;go_wp2;go_loop [7] (fun i=>∃j:Nat,j≤s.size∧i=.int .i64 j) (fun i=>s.size-(intOf i).toNat)
   case atStart=>exact ⟨0,Nat.zero_le _,rfl⟩
   case round=>
    obtain ⟨j,hj,rfl⟩:=hrel;by_cases hjs:j<s.size
    ·have hne:=iG hjs (HNZ.out j (by rw [jr];exact hjs));go_wp2;go_round
     case rel=>exact ⟨j+1,by omega,by go_num⟩
     case measure=>simp [intOf];omega
    ·obtain rfl:j=s.size:=by omega
     go_wp2;go_round
     case rel=>exact ⟨k+1,by omega,by go_num⟩
     case measure=>simp [intOf];omega
  ·obtain rfl:k=len:=by omega
   have hv0:(w.alloc (.cells #[.int .u8 0] 5)).ownsRow w.heap.size 5 1 (.slice (some ⟨w.heap.size,0,none⟩) 1 1) 1 ((tab L 0).map (Value.int .u8)):=
    jE w w.heap.size 5 [.int .u8 0] (lZr _) dZc
   have HV0:=hZz hv0;have hb0:Below w.heap.size w (w.alloc (.cells #[.int .u8 0] 5)):=(Below.refl _ _).alloc (lZr _) _;clear hv0 hlt;go_wp2;go_loopw [5,8,9,10] (fun z v u i wr=>∃q:Nat,q≤k∧i=.int .i64 q∧z=.int .i64 (tab L q).length∧wr.ownsRow w.heap.size 5 1 v (tab L q).length ((tab L q).map (Value.int .u8))∧
    wr.ownsRow w.heap.size 24 1 u q ((eO L q).map (Value.int .u64))∧Below w.heap.size w wr) (fun _ _ _ i _=>k-(intOf i).toNat)
   case atStart=>exact ⟨0,Nat.zero_le _,rfl,rfl,HV0.out,World.ownsRow_nil _ _ _ _,hb0⟩
   case round=>
    obtain ⟨q,hq,rfl,rfl,hv,hu,hbel⟩:=hrel;obtain ⟨va,vc,rfl⟩:=bF hv;obtain ⟨ua,uc,rfl⟩:=bF hu;have HV:=hZz hv;have HU:=hZz hu;clear hv hu hb0 HV0;have htq:=HTS.out q oZm;by_cases hlt:q<k
    ·obtain ⟨b,off,rfl,hbB,hcell⟩:=HS.out.2 oZm;obtain ⟨s,hsn⟩:∃s,s=nm L q:=⟨_,rfl⟩
     have hc:wr.cell? ⟨b,off+q,none⟩=some (.string s):=by
      rw [hsn];exact (hbel.cell (p:=⟨b,off+q,none⟩) (by show b<_;omega)).trans (hcell q hlt)
     have HCL:=hZz hcell;have HSN:=hZz hsn;clear hcell hsn;by_cases hse:s=.empty
     ·have hse1:s.toList=[]:=by rw [hse];exact iR
      have HSE:=hZz hse;have HSEEN:Hid (dI L q (nm L q)=true):=hZz ((br _ _ _).2 (.inl (HSN.out▸hse)));clear hse;go_wp2_with (at_builtin;refine wpList_append_own _ rfl _ _ 68 rfl w.heap.size 24 i1 (.int .u64 0) 1 8 Tryz.underlying68 HJ.out HY0.out HY1.out HY2.out rfl dZc _ q _ rfl (HU.out.alloc _) _ 1 1 [.int .u64 0] rfl rfl ?c1 ?c2 ?c3 ?c4 ?c5 ?_);case c1=>exact cell_one_new _ _ _
      case c2=>intro u hu;obtain rfl:=List.mem_singleton.1 hu;rfl
      case c3=>unfold maxLen;omega
      case c4=>omega
      case c5=>have:=hbel.size;simp;omega
      intro u' w3 hu3 hg3 hnil3;have HU3:Hid (w3.ownsRow w.heap.size 24 1 u' (q+1) ((eO L (q+1)).map (Value.int .u64))):=hZz (by
       rw [eO,List.map_append,←HSN.out,HSE.out,lZ];exact hu3)
      have HV3:=hZz ((HV.out.alloc (.cells #[.int .u64 0] 24)).kept hg3 (dl HV.out HU.out dZc));have hb3:Below w.heap.size w w3:=(hbel.alloc hbel.size _).grown hg3 (by have:=hbel.size;simp;omega) (fun q e=>(HU.out.lt q e).1);have HT3:=hZz (iZ HSEEN.out);clear hu3 hg3 hnil3;go_wp2;go_roundw
      case rel=>exact ⟨q+1,by omega,by go_num,by rw [HT3.out],by rw [HT3.out];exact HV3.out,HU3.out,hb3⟩
      case measure=>simp [intOf];omega
     ·have hse1:=oi hse;have HSE:=hZz hse;have htqi:((tab L q).length:Int)≤1000002000001:=by omega
      clear hse;cases hseen:dI L q (nm L q) with
      | true=>
        have HSEEN:=hZz hseen;obtain ⟨f,hf⟩:∃f,f=aJ L s q:=⟨_,rfl⟩
        have hfq:f<q:=by
         have h1:s≠.empty:=HSE.out;have h2:=hseen;unfold dI at h2;rw [←HSN.out] at h2;simp only [h1,decide_false,Bool.false_or,decide_eq_true_eq] at h2;omega
        have HFH:Hid (nm L f=s∧∀i,i<f→nm L i≠s):=hZz (by rw [hf];exact eC (hf▸hfq));obtain ⟨P,hP⟩:∃P,P=pos L q s:=⟨_,rfl⟩
        have hPT:P<(tab L q).length:=by rw [hP,HSN.out];exact wX ((br _ _ _).1 hseen)
        have HP:=hZz hP;have hne2:((P:Int)==((tab L q).length:Int))=false:=by rw [beq_eq_false_iff_ne];omega
        have hPi:(P:Int)<((tab L q).length:Int):=by omega
        clear hseen hf hP;obtain ⟨wo,rfl⟩:∃wo:World,wo=wr:=⟨_,rfl⟩
        go_wp2;go_loopw [12] (fun i wx=>∃j:Nat,j≤f∧i=.int .i64 j∧wx.ownsRow w.heap.size 5 1 (.slice va (tab L q).length vc) (tab L q).length ((tab L q).map (Value.int .u8))∧
         wx.ownsRow w.heap.size 24 1 (.slice ua q uc) q ((eO L q).map (Value.int .u64))∧Below w.heap.size w wx) (fun i _=>q-(intOf i).toNat)
        case atStart=>exact ⟨0,Nat.zero_le _,rfl,HV.out,HU.out,hbel⟩
        case round=>
         obtain ⟨j,hj,rfl,hvx,hux,hbx⟩:=hrel;have HVX:=hZz hvx;have HUX:=hZz hux;have HBX:=hZz hbx;have hcx:∀i,i<k→wr.cell? ⟨b,off+i,none⟩=some (.string (nm L i)):=fun i hi=>
          (hbx.cell (p:=⟨b,off+i,none⟩) (by show b<_;omega)).trans (HCL.out i hi)
         have hcq:=hcx q hlt;have hcj:=hcx j oZm;rw [←HSN.out] at hcq;obtain ⟨t,ht⟩:∃t,t=nm L j:=⟨_,rfl⟩
         rw [←ht] at hcj;have hjq:j<q:=by omega
         have hjl:(j:Int)<(k:Int):=by omega
         clear hvx hbx hcx;by_cases hjf:j<f
         ·have hts:(t.toList==s.toList)=false:=lM (ht▸HFH.out.2 j hjf);clear hux ht;go_wp2_with fail;go_quiet (fail)
          go_wp2;go_roundw
          case rel=>exact ⟨j+1,by omega,by go_num,ev HVX.out _,ev HUX.out _,aN HBX.out _⟩
          case measure=>simp [intOf];omega
         ·obtain rfl:j=f:=by omega
          obtain rfl:t=s:=ht.trans HFH.out.1;obtain ⟨g,c,hgv,hbg⟩:=gO hux oZm;injection hgv with hgv1 hgv2 hgv3;subst hgv1;subst hgv3;have hco:=hux.cellAt j oZm;rw [iJ (by rw [fR];exact hjq),ju L hjq,HFH.out.1,←HP.out] at hco;have HUX2:Hid (∀a,(wr.drewN a).ownsRow w.heap.size 24 1 (.slice (some ⟨g,0,none⟩) q uc) q ((eO L q).map (Value.int .u64))):=hZz (fun a=>ev HUX.out a);have HVX2:Hid (∀a,(wr.drewN a).ownsRow w.heap.size 5 1 (.slice va (tab L q).length vc) (tab L q).length ((tab L q).map (Value.int .u8))):=hZz (fun a=>ev HVX.out a);clear ht hux;go_wp2_with fail;go_quiet (fail)
          go_wp2_with (at_builtin;refine wpList_append_own _ rfl _ _ 68 rfl w.heap.size 24 i1 (.int .u64 0) 1 8 Tryz.underlying68 HJ.out HY0.out HY1.out HY2.out rfl dZc _ q _ rfl ((HUX2.out _).alloc _) _ 1 1 [.int .u64 (P:Int)] rfl rfl ?d1 ?d2 ?d3 ?d4 ?d5 ?_);case d1=>exact cell_one_new _ _ _
          case d2=>intro u hu;obtain rfl:=List.mem_singleton.1 hu;rfl
          case d3=>unfold maxLen;omega
          case d4=>omega
          case d5=>have:=(aN HBX.out nq).size;simp at this⊢;omega
          intro u' w3 hu3 hg3 hnil3;have HU3:Hid (w3.ownsRow w.heap.size 24 1 u' (q+1) ((eO L (q+1)).map (Value.int .u64))):=hZz (by
           have e:pos L (q+1) (nm L q)=P:=by rw [HP.out,HSN.out,fT (m:=q+1) ((br _ _ _).1 HSEEN.out) (by omega)]
           rw [eO,List.map_append,e];exact hu3)
          have HV3:=hZz (((HVX2.out nq).alloc (.cells #[.int .u64 (P:Int)] 24)).kept hg3 (dl (HVX2.out nq) (HUX2.out nq) dZc));have hb3:Below w.heap.size w w3:=((aN HBX.out nq).alloc (aN HBX.out nq).size _).grown hg3 (by have:=(aN HBX.out nq).size;simp at this⊢;omega) (fun q e=>(HUX.out.lt q e).1);have HT3:=hZz (iZ HSEEN.out);clear hu3 hg3 hnil3;go_wp2;go_roundw
          case rel=>exact ⟨q+1,by omega,by go_num,by rw [HT3.out],by rw [HT3.out];exact HV3.out,HU3.out,hb3⟩
          case measure=>simp [intOf];omega
      | false=>
        have HSEEN:=hZz hseen;have HNE:Hid (∀i,i<q→nm L i≠s):=hZz (fun i hi e=>by
         have:=(br L q (nm L q)).2 (.inr ⟨i,hi,HSN.out▸e⟩);rw [hseen] at this;cases this)
        have HTN:=hZz (ms hseen);have HLN:Hid ((tab L (q+1)).length=(tab L q).length+s.size+1):=hZz (by
         rw [HTN.out,lZa,lZa,jr,HSN.out];rfl)
        have hss:s.size≤1000000:=by rw [HSN.out];exact HSZ.out q
        clear hseen;obtain ⟨wo,rfl⟩:∃wo:World,wo=wr:=⟨_,rfl⟩
        go_wp2;go_loopw [11,12] (fun z i wx=>∃j:Nat,j≤q∧i=.int .i64 j∧z=.int .u64 (tab L q).length∧wx.ownsRow w.heap.size 5 1 (.slice va (tab L q).length vc) (tab L q).length ((tab L q).map (Value.int .u8))∧
         wx.ownsRow w.heap.size 24 1 (.slice ua q uc) q ((eO L q).map (Value.int .u64))∧Below w.heap.size w wx) (fun _ i _=>q-(intOf i).toNat)
        case atStart=>exact ⟨0,Nat.zero_le _,rfl,rfl,HV.out,HU.out,hbel⟩
        case round=>
         obtain ⟨j,hj,rfl,rfl,hvx,hux,hbx⟩:=hrel;have HVX:=hZz hvx;have HUX:=hZz hux;by_cases hjf:j<q
         ·have HBX:=hZz hbx;have hcx:∀i,i<k→wr.cell? ⟨b,off+i,none⟩=some (.string (nm L i)):=fun i hi=>
           (hbx.cell (p:=⟨b,off+i,none⟩) (by show b<_;omega)).trans (HCL.out i hi)
          have hcq:=hcx q hlt;have hcj:=hcx j oZm;rw [←HSN.out] at hcq;obtain ⟨t,ht⟩:∃t,t=nm L j:=⟨_,rfl⟩
          rw [←ht] at hcj;have hjl:(j:Int)<(k:Int):=by omega
          have hts:(t.toList==s.toList)=false:=lM (ht▸HNE.out j hjf);clear hvx hbx hcx hux ht;go_wp2_with fail;go_quiet (fail)
          go_wp2;go_roundw
          case rel=>exact ⟨j+1,by omega,by go_num,rfl,ev HVX.out _,ev HUX.out _,aN HBX.out _⟩
          case measure=>simp [intOf];omega
         ·obtain rfl:q=j:=by omega
          have hcw:wr.cell? ⟨b,off+q,none⟩=some (.string s):=by
           rw [HSN.out];exact (hbx.cell (p:=⟨b,off+q,none⟩) (by show b<_;omega)).trans (HCL.out q hlt)
          clear hvx hux;go_wp2_with (at_builtin;refine Lib.wpList_append_own_string _ rfl _ _ 22 9 rfl w.heap.size 5 i0 Tryz.underlying22 Tryz.underlying9 HI.out HZ0.out HZ1.out HZ2.out _ (tab L q).length _ rfl HVX.out s rfl ?c1 ?c2 ?c3 ?_);case c1=>unfold maxLen;omega
          case c2=>omega
          case c3=>exact hbx.size
          intro v4 w4 hv4 hg4 hnil4;rw [nv,←List.map_append] at hv4;have hb4:Below w.heap.size w w4:=hbx.grown hg4 hbx.size (fun q e=>(HVX.out.lt q e).1);have HV4:=hZz hv4;have HU4:=hZz (HUX.out.kept hg4 (dl HUX.out HVX.out dZc));obtain ⟨va4,vc4,rfl⟩:=bF hv4;clear hv4 hg4 hnil4;go_wp2_with (at_builtin;refine wpList_append_own _ rfl _ _ 22 rfl w.heap.size 5 i0 (.int .u8 0) 1 1 Tryz.underlying22 HI.out HZ0.out HZ1.out HZ2.out rfl dZc _ ((tab L q).length+s.size) _ rfl (HV4.out.alloc _) ⟨w4.heap.size,0,none⟩ 1 1 [.int .u8 0] rfl rfl ?d1 ?d2 ?d3 ?d4 ?d5 ?_);case d1=>exact cell_one_new _ _ _
          case d2=>intro u hu;obtain rfl:=List.mem_singleton.1 hu;rfl
          case d3=>unfold maxLen;omega
          case d4=>omega
          case d5=>have:=hb4.size;simp;omega
          intro v5 w5 hv5 hg5 hnil5;have hb5:Below w.heap.size w w5:=(hb4.alloc hb4.size _).grown hg5 (by have:=hb4.size;simp;omega) (fun q e=>(HV4.out.lt q e).1);obtain ⟨va5,vc5,rfl⟩:=bF hv5;have HV5:Hid (w5.ownsRow w.heap.size 5 1 (.slice va5 ((tab L q).length+s.size+1) vc5) (tab L (q+1)).length ((tab L (q+1)).map (Value.int .u8))):=hZz (by
           rw [HLN.out,HTN.out,←HSN.out,List.map_append,List.map_append];exact hv5)
          have HU5:=hZz ((HU4.out.alloc (.cells #[.int .u8 0] 5)).kept hg5 (dl HU4.out HV4.out dZc));clear hv5 hg5 hnil5;go_wp2_with (at_builtin;refine wpList_append_own _ rfl _ _ 68 rfl w.heap.size 24 i1 (.int .u64 0) 1 8 Tryz.underlying68 HJ.out HY0.out HY1.out HY2.out rfl dZc _ q _ rfl (HU5.out.alloc _) _ 1 1 [.int .u64 ((tab L q).length:Int)] rfl rfl ?e1 ?e2 ?e3 ?e4 ?e5 ?_);case e1=>exact cell_one_new _ _ _
          case e2=>intro u hu;obtain rfl:=List.mem_singleton.1 hu;rfl
          case e3=>unfold maxLen;omega
          case e4=>omega
          case e5=>have:=hb5.size;simp;omega
          intro u6 w6 hu6 hg6 hnil6;have hb6:Below w.heap.size w w6:=(hb5.alloc hb5.size _).grown hg6 (by have:=hb5.size;simp;omega) (fun q e=>(HU5.out.lt q e).1);have HU6:Hid (w6.ownsRow w.heap.size 24 1 u6 (q+1) ((eO L (q+1)).map (Value.int .u64))):=hZz (by
           rw [eO,List.map_append,mw HSEEN.out];exact hu6)
          have HV6:=hZz ((HV5.out.alloc (.cells #[.int .u64 ((tab L q).length:Int)] 24)).kept hg6 (dl HV5.out HU5.out dZc));clear hu6 hg6 hnil6;go_wp2;go_roundw
          case rel=>exact ⟨q+1,by omega,by go_num,by rw [HLN.out];go_num,HV6.out,HU6.out,hb6⟩
          case measure=>simp [intOf];omega
    ·obtain rfl:q=k:=by omega
     have htqi:((tab L q).length:Int)≤1000002000001:=by omega
     by_cases hov:65536<(tab L q).length
     ·have hovi:(65536:Int)<((tab L q).length:Int):=by omega
      have HLO:Hid (65536<(tab L L.length).length):=hZz (by rw [HLEN.out];exact hov);clear hov;go_wp2;go_ret3;exact ⟨hbel,.inl ⟨HLO.out,rfl⟩⟩
     ·have hovi:((tab L q).length:Int)≤65536:=by omega
      have HOV:Hid ((tab L q).length≤65536):=hZz oZm;clear hov;go_wp2;go_ret3;exact iN HLEN.out hbel HOV.out HV.out HU.out
end Go.Proofs.YtclgbdfkdbbinaaGreat
namespace Go.Proofs.YtclgbdfkdbbinaaGreat
open Go.RowKit





end Go.Proofs.YtclgbdfkdbbinaaGreat
