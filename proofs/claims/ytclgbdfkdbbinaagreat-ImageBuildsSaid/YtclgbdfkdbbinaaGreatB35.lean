/-
  What is proved here: words and contracts, a part of those that the statement rests on (B35).
  Conditions: none but that the arguments are values of their types.
-/
import Derived.Test.YtclgbdfkdbbinaaGreatB0
import Derived.Test.YtclgbdfkdbbinaaGreatB34
import Derived.Deep.Cut
import Derived.Deep.CutBlock
import Derived.Deep.DeepCutAuto
set_option linter.unusedVariables false
set_option linter.unusedSimpArgs false
set_option maxRecDepth 100000
set_option maxHeartbeats 12800000
namespace Go.Proofs.YtclgbdfkdbbinaaGreat
open Go.RowKit
def eH (m:Sp) (w:World) (e:Ending) (w':World):Prop:=∃x:Spv,e=.returned x.val∧x.Is w' w'.heap.size m∧aC x∧Below w.heap.size w w'
structure DW (w:World) (m:Sp) (C Z:Array Value) (O:Value→Array Value) (k:Nat) (l:Value) (wr:World):Prop where
 bel:Below w.heap.size w wr
 p:Blk wr w.heap.size C 47
 r:Blk wr (w.heap.size+1) Z 55
 o:Blk wr (w.heap.size+2) (O l) 55
 own:wr.ownsRow (w.heap.size+3) 89 4 l k (Df.flat (m.df.take k))
theorem jl {w:World} {b k n:Nat} {e:TypeId} {v:Value} {xs:List Value} (h:w.ownsRow b e k v n xs):w.drew.ownsRow b e k v n xs:=h.kept (row:=none) ⟨rfl,rfl,rfl,lZr _,fun _ _ _=>rfl⟩ (by cases v.ownBlock<;>simp)
def DI (w:World) (m:Sp) (C Z:Array Value) (O:Value→Array Value) (k:Nat) (a:Act) (wr:World):Prop:=
 ∃(y:Nat→Value) (l:Value),a=⟨af 106 y,[]⟩∧k≤m.df.length∧y 1=.pointer (some ⟨w.heap.size,0,none⟩)∧y 2=.pointer (some ⟨w.heap.size+1,0,none⟩)∧y 3=.pointer (some ⟨w.heap.size+2,0,none⟩)∧y 4=.int .i64 k∧DW w m C Z O k l wr
theorem DI.lit {w:World} {m:Sp} {C Z:Array Value} {O:Value→Array Value} {k:Nat} {wr:World} {l:Value} (x:List Value) (hx:x.length=106) (hk:k≤m.df.length) (h1:x.getD 1 undef=.pointer (some ⟨w.heap.size,0,none⟩)) (h2:x.getD 2 undef=.pointer (some ⟨w.heap.size+1,0,none⟩)) (h3:x.getD 3 undef=.pointer (some ⟨w.heap.size+2,0,none⟩)) (h4:x.getD 4 undef=.int .i64 k) (h:DW w m C Z O k l wr):DI w m C Z O k ⟨x.toArray,[]⟩ wr:=
 ⟨fun t=>x.getD t undef,l,by rw [ap x,hx],hk,h1,h2,h3,h4,h⟩
theorem sp_2 (y:Nat→Value) (m:Sp) (w:World) (B:Nat) (hB:B≤w.heap.size) (nda:Option Addr) (ndc:Nat) (coa:Option Addr) (coc:Nat) (daa:Option Addr) (dac:Nat) (tla:Option Addr) (tlc:Nat) (dfa:Option Addr) (dfc:Nat) (fxa:Option Addr) (fxc:Nat) (Z:Array Value) (hdf:Df.Sl w B dfa m.df.length m.df) (hl:m.df.length≤1000) (wz:World) (h1:y 1=.pointer (some ⟨w.heap.size,0,none⟩)) (h2:y 2=.pointer (some ⟨w.heap.size+1,0,none⟩)) (h3:y 3=.pointer (some ⟨w.heap.size+2,0,none⟩)) (hst:DW w m #[.int .i64 m.k,.string m.so,.slice nda m.nd.length ndc,.int .u64 m.en,.slice coa m.co.length coc,.slice daa m.da.length dac,.int .u64 m.bs,.slice tla m.tl.length tlc,.int .u64 m.tb,.slice dfa m.df.length dfc,.slice fxa m.fx.length fxc] Z (fun v=>#[.int .i64 m.k,.string m.so,.slice nda m.nd.length ndc,.int .u64 m.en,.slice coa m.co.length coc,.slice daa m.da.length dac,.int .u64 m.bs,.slice tla m.tl.length tlc,.int .u64 m.tb,v,.slice none 0 0]) 0 (.slice none 0 0) wz)
 (haf:∀(x:List Value) (w9:World) (l:Value),x.length=106→x.getD 1 undef=.pointer (some ⟨w.heap.size,0,none⟩)→x.getD 2 undef=.pointer (some ⟨w.heap.size+1,0,none⟩)→x.getD 3 undef=.pointer (some ⟨w.heap.size+2,0,none⟩)→DW w m #[.int .i64 m.k,.string m.so,.slice nda m.nd.length ndc,.int .u64 m.en,.slice coa m.co.length coc,.slice daa m.da.length dac,.int .u64 m.bs,.slice tla m.tl.length tlc,.int .u64 m.tb,.slice dfa m.df.length dfc,.slice fxa m.fx.length fxc] Z (fun v=>#[.int .i64 m.k,.string m.so,.slice nda m.nd.length ndc,.int .u64 m.en,.slice coa m.co.length coc,.slice daa m.da.length dac,.int .u64 m.bs,.slice tla m.tl.length tlc,.int .u64 m.tb,v,.slice none 0 0]) m.df.length l w9→Code.wp Tryz.prog (aq 6 (Tryz.f17.body.getD .skip)) (bodyPost Tryz.prog Tryz.f17 (eH m w)) ⟨x.toArray,[]⟩ w9) :
 Code.wp Tryz.prog (aq 2 (Tryz.f17.body.getD .skip)) (bodyPost Tryz.prog Tryz.f17 (eH m w)) ⟨af 106 y,[]⟩ wz:=by
 rw [lK,h1,h2,h3];clear h1 h2 h3;conv=>arg 2;whnf
 obtain ⟨i0,hI,hz0,hz1,hz2⟩:=info_parts qU;have HI:=hZz hI;have HZ0:=hZz hz0;have HZ1:=hZz hz1;have HZ2:=hZz hz2;clear hI hz0 hz1 hz2;have HAFX:=hZz haf;have HS0:=hZz hst;have HDD:Hid (∀k,k<m.df.length→∃db do',dfa=some ⟨db,do',none⟩∧∀w1,Below w.heap.size w w1→Df.At w1 db (do'+k*4) (m.df.getD k Df.zero)):=hZz (fun k hk=>by
  obtain ⟨db,do',e,hb,hc⟩:=(hdf.more hB).hc (Nat.lt_of_le_of_lt (Nat.zero_le _) hk);exact ⟨db,do',e,fun w1 h1=>(hc k hk).below h1 hb⟩)
 clear haf hst hdf;go_upto_block 0 with fail
 rename_i K1 hK1;have HK1:=hZz hK1;clear hK1;refine wp_block ?_;refine gQ m.df.length 4 (DI w m #[.int .i64 m.k,.string m.so,.slice nda m.nd.length ndc,.int .u64 m.en,.slice coa m.co.length coc,.slice daa m.da.length dac,.int .u64 m.bs,.slice tla m.tl.length tlc,.int .u64 m.tb,.slice dfa m.df.length dfc,.slice fxa m.fx.length fxc] Z (fun v=>#[.int .i64 m.k,.string m.so,.slice nda m.nd.length ndc,.int .u64 m.en,.slice coa m.co.length coc,.slice daa m.da.length dac,.int .u64 m.bs,.slice tla m.tl.length tlc,.int .u64 m.tb,v,.slice none 0 0])) (fun k a w1 h=>by obtain ⟨y,o,-,h,-⟩:=h;exact h) (fun k a w1 h=>by obtain ⟨y,o,rfl,-,-,-,-,h,-⟩:=h;rw [eZ y dZc,h];rfl) ?_ ?_
 ·exact DI.lit _ rfl (Nat.zero_le _) rfl rfl rfl rfl HS0.out
 ·rintro k a wr ⟨y,l,rfl,hk,h1,h2,h3,h4,hst⟩ K hK;rw [lK,h1,h2,h3,h4];have HK:=hZz hK;clear h1 h2 h3 h4 HS0 hK;have HST:=hZz hst;have s9:wr.cell? ⟨w.heap.size,9,none⟩=some (.slice dfa m.df.length dfc):=hst.p.cell 9;have hgl:=hst.p.lt;have hgo:=hst.o.lt;clear hst;by_cases hlt:k<m.df.length
  ·have hki:(k:Int)<m.df.length:=by omega
   obtain ⟨db,do',hda,hdc⟩:=HDD.out k hlt;subst hda;have HSU:Hid (Df.flat (m.df.take (k+1))=Df.flat (m.df.take k)++_):=hZz (by rw [Df.take_snoc hlt];exact Df.flat_snoc _ _);generalize m.df.getD k Df.zero=d at hdc HSU;have HDC:Hid (∀w1,Below (w.heap.size+2) wr.drew w1→Df.At w1 db (do'+k*4) d):=hZz (fun w1 h1=>hdc w1 (HST.out.bel.drew.trans (h1.mono oZm)));have HBX:Hid (∀w1,Below (w.heap.size+2) wr.drew w1→Blk w1 w.heap.size #[.int .i64 m.k,.string m.so,.slice nda m.nd.length ndc,.int .u64 m.en,.slice coa m.co.length coc,.slice daa m.da.length dac,.int .u64 m.bs,.slice tla m.tl.length tlc,.int .u64 m.tb,.slice (some ⟨db,do',none⟩) m.df.length dfc,.slice fxa m.fx.length fxc] 47):=hZz (fun w1 h1=>HST.out.p.drew.below h1 oZm);have HBR:Hid (∀w1,Below (w.heap.size+2) wr.drew w1→Blk w1 (w.heap.size+1) Z 55):=hZz (fun w1 h1=>HST.out.r.drew.below h1 oZm);have HLK:Hid (k≤1000):=hZz oZm;have HSZ:Hid (w.heap.size+2≤wr.drew.heap.size):=hZz (by show w.heap.size+2≤wr.heap.size;omega);have HBS:Hid (w.heap.size+3≤wr.drew.heap.size):=hZz (by show w.heap.size+3≤wr.heap.size;omega);have HB3:Hid (w.heap.size+3≤w.heap.size+3):=hZz (lZr _);obtain ⟨Q0,hQ0⟩:∃q,Df.flat (m.df.take k)=q:=⟨_,rfl⟩
   have HQ:=hZz hQ0;clear hdc;have HOW:Hid (wr.ownsRow (w.heap.size+3) 89 4 l k Q0):=hZz (hQ0▸HST.out.own);rw [hQ0] at HSU;clear hQ0;go_upto_block 1 with fail
   rename_i K2 hK2;have HK2:=hZz hK2;clear hK2;refine wp_block ?_;refine cg (by kernel_rfl) 106 rfl [32,33,34,35,36,37,38,39,40,41,42,43,44,45,46,47,48,49,50,51,52,53,54,55,56,57,58,59,60,61,106] (fun _ _=>True) (aU [Is (.pointer (some ⟨(w.heap.size+2),9,none⟩)),Is (l),Is (.pointer (some ⟨w.heap.size,9,none⟩)),Is (.slice (some ⟨db,do',none⟩) m.df.length dfc),Is (.int .i64 k),Is (.pointer (some ⟨db,do'+k*4,none⟩)),Is (.pointer (some ⟨db,do'+k*4,none⟩)),Is (.string d.nm),Is (.pointer (some ⟨w.heap.size,9,none⟩)),Is (.slice (some ⟨db,do',none⟩) m.df.length dfc),Is (.int .i64 k),Is (.pointer (some ⟨db,do'+k*4,none⟩)),Is (.pointer (some ⟨db,do'+k*4+1,none⟩)),Is (.int .i64 d.wh),Is (.pointer (some ⟨w.heap.size,9,none⟩)),Is (.slice (some ⟨db,do',none⟩) m.df.length dfc),Is (.int .i64 k),Is (.pointer (some ⟨db,do'+k*4,none⟩)),Is (.pointer (some ⟨db,do'+k*4+2,none⟩)),Is (.int .u64 d.of),Is (.pointer (some ⟨w.heap.size,9,none⟩)),Is (.slice (some ⟨db,do',none⟩) m.df.length dfc),Is (.int .i64 k),Is (.pointer (some ⟨db,do'+k*4,none⟩)),Is (.pointer (some ⟨db,do'+k*4+3,none⟩)),Is (.bool d.wk),Is (.agg #[.string d.nm,.int .i64 d.wh,.int .u64 d.of,.bool d.wk]),bD,bD,Is (.pointer (some ⟨(w.heap.size+2),9,none⟩)),bD]) (JA [27,28,30] [59,60] (PAp w wr.drew (fun v=>#[.int .i64 m.k,.string m.so,.slice nda m.nd.length ndc,.int .u64 m.en,.slice coa m.co.length coc,.slice daa m.da.length dac,.int .u64 m.bs,.slice tla m.tl.length tlc,.int .u64 m.tb,v,.slice none 0 0]) 89 (w.heap.size+3) 4 k l Q0 [.string d.nm,.int .i64 d.wh,.int .u64 d.of,.bool d.wk] 27 28 30 59 60)) ?mono5 ?hj5 (by kernel_rfl) ?start5 ?steps5 ?fin5;case mono5=>exact aV (aa (Is.monoR _ _) (aa (Is.monoR _ _) (aa (Is.monoR _ _) (aa (Is.monoR _ _) (aa (Is.monoR _ _) (aa (Is.monoR _ _) (aa (Is.monoR _ _) (aa (Is.monoR _ _) (aa (Is.monoR _ _) (aa (Is.monoR _ _) (aa (Is.monoR _ _) (aa (Is.monoR _ _) (aa (Is.monoR _ _) (aa (Is.monoR _ _) (aa (Is.monoR _ _) (aa (Is.monoR _ _) (aa (Is.monoR _ _) (aa (Is.monoR _ _) (aa (Is.monoR _ _) (aa (Is.monoR _ _) (aa (Is.monoR _ _) (aa (Is.monoR _ _) (aa (Is.monoR _ _) (aa (Is.monoR _ _) (aa (Is.monoR _ _) (aa (Is.monoR _ _) (aa (Is.monoR _ _) (aa (bD.monoR _) (aa (bD.monoR _) (aa (Is.monoR _ _) (aa (bD.monoR _) (bN _))))))))))))))))))))))))))))))))
   case hj5=>exact JA.congr dZc
   case start5=>
    refine JA.of fun L' y' h1 h2=>?_;exact ⟨Below.refl _ _,(fun h=>by rw [h1 27 (by decide)] at h;cases h),(fun _=>jl HOW.out),(fun h=>by rw [h1 28 (by decide)] at h;cases h),(fun _=>HST.out.o.drew),(fun h=>by rw [h1 30 (by decide)] at h;cases h),(fun _ _ _ _ _ a _=>a)⟩
   case fin5=>
    intro y L w9 hJ hall hF hT;have hP:=hJ.out;clear hJ hF;have o9:=hP.own1 (hall 28 dZc);have b9:=hP.o1 (hall 30 dZc);have t1:y 1=.pointer (some ⟨w.heap.size,0,none⟩):=hT 1 dZc;have t2:y 2=.pointer (some ⟨w.heap.size+1,0,none⟩):=hT 2 dZc;have t3:y 3=.pointer (some ⟨w.heap.size+2,0,none⟩):=hT 3 dZc;have t4:y 4=.int .i64 k:=hT 4 dZc;have HD:Hid (DW w m #[.int .i64 m.k,.string m.so,.slice nda m.nd.length ndc,.int .u64 m.en,.slice coa m.co.length coc,.slice daa m.da.length dac,.int .u64 m.bs,.slice tla m.tl.length tlc,.int .u64 m.tb,.slice (some ⟨db,do',none⟩) m.df.length dfc,.slice fxa m.fx.length fxc] Z (fun v=>#[.int .i64 m.k,.string m.so,.slice nda m.nd.length ndc,.int .u64 m.en,.slice coa m.co.length coc,.slice daa m.da.length dac,.int .u64 m.bs,.slice tla m.tl.length tlc,.int .u64 m.tb,v,.slice none 0 0]) (k+1) (y 60) w9):=hZz ⟨HST.out.bel.drew.trans (hP.bel.mono oZm),HBX.out _ hP.bel,HBR.out _ hP.bel,b9,by rw [HSU.out];exact o9⟩;clear hP hall o9 b9;refine HK2.out _ _ ?_;rw [lK,t1,t2,t3,t4];clear t1 t2 t3 t4 hT;go_wp2_with fail;exact HK.out _ _ (DI.lit _ rfl (Nat.succ_le_of_lt hlt) rfl rfl rfl rfl HD.out)
   case steps5=>
    refine ⟨?_,?_,?_,?_,?_,?_,?_,?_,?_,?_,?_,?_,?_,?_,?_,?_,?_,?_,?_,?_,?_,?_,?_,?_,?_,?_,?_,?_,?_,?_,?_,trivial⟩;all_goals intro L y w9 hJ hL hy0 hp0 hcl hun
    all_goals have hy:=hZz hy0
    all_goals have hp:=hZz hp0
    all_goals have HJ:=hZz hJ
    all_goals have HP:=hZz hJ.out
    all_goals have hU:=hZz hun
    all_goals clear hy0 hp0 hun hJ
    ·have e1:y 3=.pointer (some ⟨(w.heap.size+2),0,none⟩):=hy.out 3 dZc;intro K Q hK;clear hcl hL;obtain ⟨A,hA,v1⟩:=evA1 (n:=106) e1 dZc;rw [hA] at hK⊢;clear hA hy hp;go_simp;exact hK _ _ ⟨trivial,fun _=>rfl,HJ.out.pure dZc dZc⟩
    ·have e1:y 32=.pointer (some ⟨(w.heap.size+2),9,none⟩):=(hp.out 0 dZc).2 dZc;have hN30:L 30=false:=by
      cases h:L 30 with
      | false=>rfl
      | true=>have:=(hcl 28 _ rfl (hcl 30 _ rfl h 28 dZc) 1 dZc);rw [hL] at this;cases this
     have q9:w9.cell? ⟨(w.heap.size+2),9,none⟩=some (l):=(HP.out.o0 hN30).cell 9;intro K Q hK;clear hcl hL;obtain ⟨A,hA,v1⟩:=evA1 (n:=106) e1 dZc;rw [hA] at hK⊢;clear hA hy hp;go_simp;exact hK _ _ ⟨trivial,fun _=>rfl,HJ.out.pure dZc dZc⟩
    ·have e1:y 1=.pointer (some ⟨w.heap.size,0,none⟩):=hy.out 1 dZc;intro K Q hK;clear hcl hL;obtain ⟨A,hA,v1⟩:=evA1 (n:=106) e1 dZc;rw [hA] at hK⊢;clear hA hy hp;go_simp;exact hK _ _ ⟨trivial,fun _=>rfl,HJ.out.pure dZc dZc⟩
    ·have e1:y 34=.pointer (some ⟨w.heap.size,9,none⟩):=(hp.out 2 dZc).2 dZc;have hN30:L 30=false:=by
      cases h:L 30 with
      | false=>rfl
      | true=>have:=(hcl 5 _ rfl (hcl 6 _ rfl (hcl 7 _ rfl (hcl 26 _ rfl (hcl 27 _ rfl (hcl 28 _ rfl (hcl 30 _ rfl h 28 dZc) 27 dZc) 26 dZc) 7 dZc) 6 dZc) 5 dZc) 3 dZc);rw [hL] at this;cases this
     have q9:w9.cell? ⟨w.heap.size,9,none⟩=some (.slice (some ⟨db,do',none⟩) m.df.length dfc):=(HBX.out _ HP.out.bel).cell 9;intro K Q hK;clear hcl hL;obtain ⟨A,hA,v1⟩:=evA1 (n:=106) e1 dZc;rw [hA] at hK⊢;clear hA hy hp;go_simp;exact hK _ _ ⟨trivial,fun _=>rfl,HJ.out.pure dZc dZc⟩
    ·have e1:y 4=.int .i64 k:=hy.out 4 dZc;intro K Q hK;clear hcl hL;obtain ⟨A,hA,v1⟩:=evA1 (n:=106) e1 dZc;rw [hA] at hK⊢;clear hA hy hp;go_simp;exact hK _ _ ⟨trivial,fun _=>rfl,HJ.out.pure dZc dZc⟩
    ·have e1:y 35=.slice (some ⟨db,do',none⟩) m.df.length dfc:=(hp.out 3 dZc).2 dZc;have e2:y 36=.int .i64 k:=(hp.out 4 dZc).2 dZc;intro K Q hK;clear hcl hL;obtain ⟨A,hA,v1,v2⟩:=evA2 (n:=106) e1 e2 dZc dZc;rw [hA] at hK⊢;clear hA hy hp;go_simp;exact hK _ _ ⟨trivial,fun _=>rfl,HJ.out.pure dZc dZc⟩
    ·have e1:y 37=.pointer (some ⟨db,do'+k*4,none⟩):=(hp.out 5 dZc).2 dZc;intro K Q hK;clear hcl hL;obtain ⟨A,hA,v1⟩:=evA1 (n:=106) e1 dZc;rw [hA] at hK⊢;clear hA hy hp;go_simp;exact hK _ _ ⟨trivial,fun _=>rfl,HJ.out.pure dZc dZc⟩
    ·have e1:y 38=.pointer (some ⟨db,do'+k*4,none⟩):=(hp.out 6 dZc).2 dZc;have q0:=(HDC.out _ HP.out.bel).c0;intro K Q hK;clear hcl hL;obtain ⟨A,hA,v1⟩:=evA1 (n:=106) e1 dZc;rw [hA] at hK⊢;clear hA hy hp;go_simp;exact hK _ _ ⟨trivial,fun _=>rfl,HJ.out.pure dZc dZc⟩
    ·have e1:y 1=.pointer (some ⟨w.heap.size,0,none⟩):=hy.out 1 dZc;intro K Q hK;clear hcl hL;obtain ⟨A,hA,v1⟩:=evA1 (n:=106) e1 dZc;rw [hA] at hK⊢;clear hA hy hp;go_simp;exact hK _ _ ⟨trivial,fun _=>rfl,HJ.out.pure dZc dZc⟩
    ·have e1:y 40=.pointer (some ⟨w.heap.size,9,none⟩):=(hp.out 8 dZc).2 dZc;have hN30:L 30=false:=by
      cases h:L 30 with
      | false=>rfl
      | true=>have:=(hcl 11 _ rfl (hcl 12 _ rfl (hcl 13 _ rfl (hcl 26 _ rfl (hcl 27 _ rfl (hcl 28 _ rfl (hcl 30 _ rfl h 28 dZc) 27 dZc) 26 dZc) 13 dZc) 12 dZc) 11 dZc) 9 dZc);rw [hL] at this;cases this
     have q9:w9.cell? ⟨w.heap.size,9,none⟩=some (.slice (some ⟨db,do',none⟩) m.df.length dfc):=(HBX.out _ HP.out.bel).cell 9;intro K Q hK;clear hcl hL;obtain ⟨A,hA,v1⟩:=evA1 (n:=106) e1 dZc;rw [hA] at hK⊢;clear hA hy hp;go_simp;exact hK _ _ ⟨trivial,fun _=>rfl,HJ.out.pure dZc dZc⟩
    ·have e1:y 4=.int .i64 k:=hy.out 4 dZc;intro K Q hK;clear hcl hL;obtain ⟨A,hA,v1⟩:=evA1 (n:=106) e1 dZc;rw [hA] at hK⊢;clear hA hy hp;go_simp;exact hK _ _ ⟨trivial,fun _=>rfl,HJ.out.pure dZc dZc⟩
    ·have e1:y 41=.slice (some ⟨db,do',none⟩) m.df.length dfc:=(hp.out 9 dZc).2 dZc;have e2:y 42=.int .i64 k:=(hp.out 10 dZc).2 dZc;intro K Q hK;clear hcl hL;obtain ⟨A,hA,v1,v2⟩:=evA2 (n:=106) e1 e2 dZc dZc;rw [hA] at hK⊢;clear hA hy hp;go_simp;exact hK _ _ ⟨trivial,fun _=>rfl,HJ.out.pure dZc dZc⟩
    ·have e1:y 43=.pointer (some ⟨db,do'+k*4,none⟩):=(hp.out 11 dZc).2 dZc;intro K Q hK;clear hcl hL;obtain ⟨A,hA,v1⟩:=evA1 (n:=106) e1 dZc;rw [hA] at hK⊢;clear hA hy hp;go_simp;exact hK _ _ ⟨trivial,fun _=>rfl,HJ.out.pure dZc dZc⟩
    ·have e1:y 44=.pointer (some ⟨db,do'+k*4+1,none⟩):=(hp.out 12 dZc).2 dZc;have q0:=(HDC.out _ HP.out.bel).c1;intro K Q hK;clear hcl hL;obtain ⟨A,hA,v1⟩:=evA1 (n:=106) e1 dZc;rw [hA] at hK⊢;clear hA hy hp;go_simp;exact hK _ _ ⟨trivial,fun _=>rfl,HJ.out.pure dZc dZc⟩
    ·have e1:y 1=.pointer (some ⟨w.heap.size,0,none⟩):=hy.out 1 dZc;intro K Q hK;clear hcl hL;obtain ⟨A,hA,v1⟩:=evA1 (n:=106) e1 dZc;rw [hA] at hK⊢;clear hA hy hp;go_simp;exact hK _ _ ⟨trivial,fun _=>rfl,HJ.out.pure dZc dZc⟩
    ·have e1:y 46=.pointer (some ⟨w.heap.size,9,none⟩):=(hp.out 14 dZc).2 dZc;have hN30:L 30=false:=by
      cases h:L 30 with
      | false=>rfl
      | true=>have:=(hcl 17 _ rfl (hcl 18 _ rfl (hcl 19 _ rfl (hcl 26 _ rfl (hcl 27 _ rfl (hcl 28 _ rfl (hcl 30 _ rfl h 28 dZc) 27 dZc) 26 dZc) 19 dZc) 18 dZc) 17 dZc) 15 dZc);rw [hL] at this;cases this
     have q9:w9.cell? ⟨w.heap.size,9,none⟩=some (.slice (some ⟨db,do',none⟩) m.df.length dfc):=(HBX.out _ HP.out.bel).cell 9;intro K Q hK;clear hcl hL;obtain ⟨A,hA,v1⟩:=evA1 (n:=106) e1 dZc;rw [hA] at hK⊢;clear hA hy hp;go_simp;exact hK _ _ ⟨trivial,fun _=>rfl,HJ.out.pure dZc dZc⟩
    ·have e1:y 4=.int .i64 k:=hy.out 4 dZc;intro K Q hK;clear hcl hL;obtain ⟨A,hA,v1⟩:=evA1 (n:=106) e1 dZc;rw [hA] at hK⊢;clear hA hy hp;go_simp;exact hK _ _ ⟨trivial,fun _=>rfl,HJ.out.pure dZc dZc⟩
    ·have e1:y 47=.slice (some ⟨db,do',none⟩) m.df.length dfc:=(hp.out 15 dZc).2 dZc;have e2:y 48=.int .i64 k:=(hp.out 16 dZc).2 dZc;intro K Q hK;clear hcl hL;obtain ⟨A,hA,v1,v2⟩:=evA2 (n:=106) e1 e2 dZc dZc;rw [hA] at hK⊢;clear hA hy hp;go_simp;exact hK _ _ ⟨trivial,fun _=>rfl,HJ.out.pure dZc dZc⟩
    ·have e1:y 49=.pointer (some ⟨db,do'+k*4,none⟩):=(hp.out 17 dZc).2 dZc;intro K Q hK;clear hcl hL;obtain ⟨A,hA,v1⟩:=evA1 (n:=106) e1 dZc;rw [hA] at hK⊢;clear hA hy hp;go_simp;exact hK _ _ ⟨trivial,fun _=>rfl,HJ.out.pure dZc dZc⟩
    ·have e1:y 50=.pointer (some ⟨db,do'+k*4+2,none⟩):=(hp.out 18 dZc).2 dZc;have q0:=(HDC.out _ HP.out.bel).c2;intro K Q hK;clear hcl hL;obtain ⟨A,hA,v1⟩:=evA1 (n:=106) e1 dZc;rw [hA] at hK⊢;clear hA hy hp;go_simp;exact hK _ _ ⟨trivial,fun _=>rfl,HJ.out.pure dZc dZc⟩
    ·have e1:y 1=.pointer (some ⟨w.heap.size,0,none⟩):=hy.out 1 dZc;intro K Q hK;clear hcl hL;obtain ⟨A,hA,v1⟩:=evA1 (n:=106) e1 dZc;rw [hA] at hK⊢;clear hA hy hp;go_simp;exact hK _ _ ⟨trivial,fun _=>rfl,HJ.out.pure dZc dZc⟩
    ·have e1:y 52=.pointer (some ⟨w.heap.size,9,none⟩):=(hp.out 20 dZc).2 dZc;have hN30:L 30=false:=by
      cases h:L 30 with
      | false=>rfl
      | true=>have:=(hcl 23 _ rfl (hcl 24 _ rfl (hcl 25 _ rfl (hcl 26 _ rfl (hcl 27 _ rfl (hcl 28 _ rfl (hcl 30 _ rfl h 28 dZc) 27 dZc) 26 dZc) 25 dZc) 24 dZc) 23 dZc) 21 dZc);rw [hL] at this;cases this
     have q9:w9.cell? ⟨w.heap.size,9,none⟩=some (.slice (some ⟨db,do',none⟩) m.df.length dfc):=(HBX.out _ HP.out.bel).cell 9;intro K Q hK;clear hcl hL;obtain ⟨A,hA,v1⟩:=evA1 (n:=106) e1 dZc;rw [hA] at hK⊢;clear hA hy hp;go_simp;exact hK _ _ ⟨trivial,fun _=>rfl,HJ.out.pure dZc dZc⟩
    ·have e1:y 4=.int .i64 k:=hy.out 4 dZc;intro K Q hK;clear hcl hL;obtain ⟨A,hA,v1⟩:=evA1 (n:=106) e1 dZc;rw [hA] at hK⊢;clear hA hy hp;go_simp;exact hK _ _ ⟨trivial,fun _=>rfl,HJ.out.pure dZc dZc⟩
    ·have e1:y 53=.slice (some ⟨db,do',none⟩) m.df.length dfc:=(hp.out 21 dZc).2 dZc;have e2:y 54=.int .i64 k:=(hp.out 22 dZc).2 dZc;intro K Q hK;clear hcl hL;obtain ⟨A,hA,v1,v2⟩:=evA2 (n:=106) e1 e2 dZc dZc;rw [hA] at hK⊢;clear hA hy hp;go_simp;exact hK _ _ ⟨trivial,fun _=>rfl,HJ.out.pure dZc dZc⟩
    ·have e1:y 55=.pointer (some ⟨db,do'+k*4,none⟩):=(hp.out 23 dZc).2 dZc;intro K Q hK;clear hcl hL;obtain ⟨A,hA,v1⟩:=evA1 (n:=106) e1 dZc;rw [hA] at hK⊢;clear hA hy hp;go_simp;exact hK _ _ ⟨trivial,fun _=>rfl,HJ.out.pure dZc dZc⟩
    ·have e1:y 56=.pointer (some ⟨db,do'+k*4+3,none⟩):=(hp.out 24 dZc).2 dZc;have q0:=(HDC.out _ HP.out.bel).c3;intro K Q hK;clear hcl hL;obtain ⟨A,hA,v1⟩:=evA1 (n:=106) e1 dZc;rw [hA] at hK⊢;clear hA hy hp;go_simp;exact hK _ _ ⟨trivial,fun _=>rfl,HJ.out.pure dZc dZc⟩
    ·have e1:y 39=.string d.nm:=(hp.out 7 dZc).2 dZc;have e2:y 45=.int .i64 d.wh:=(hp.out 13 dZc).2 dZc;have e3:y 51=.int .u64 d.of:=(hp.out 19 dZc).2 dZc;have e4:y 57=.bool d.wk:=(hp.out 25 dZc).2 dZc;intro K Q hK;clear hcl hL;have v1:=(ax 106 y [] (t:=39) dZc).trans e1;have v2:=(ax 106 y [] (t:=45) dZc).trans e2;have v3:=(ax 106 y [] (t:=51) dZc).trans e3;have v4:=(ax 106 y [] (t:=57) dZc).trans e4;obtain ⟨A,hA⟩:∃A,(⟨af 106 y,[]⟩:Act)=A:=⟨_,rfl⟩
     rw [hA] at v1 v2 v3 v4 hK⊢;clear hA hy hp;simp only [Act.eval] at v1 v2 v3 v4;rw [Array.getD_eq_getD_getElem?] at v1 v2 v3 v4;go_simp;exact hK _ _ ⟨trivial,fun _=>rfl,HJ.out.pure dZc dZc⟩
    ·have e1:y 58=.agg #[.string d.nm,.int .i64 d.wh,.int .u64 d.of,.bool d.wk]:=(hp.out 26 dZc).2 dZc;have hN28:L 28=false:=by
      cases h:L 28 with
      | false=>rfl
      | true=>have:=(hcl 28 _ rfl h 27 dZc);rw [hL] at this;cases this
     have hN30:L 30=false:=by
      cases h:L 30 with
      | false=>rfl
      | true=>have:=(hcl 28 _ rfl (hcl 30 _ rfl h 28 dZc) 27 dZc);rw [hL] at this;cases this
     intro K Q hK;clear hcl hL;obtain ⟨A,hA,v1⟩:=evA1 (n:=106) e1 dZc;rw [hA] at hK⊢;clear hA hy hp;rw [Array.getD_eq_getD_getElem?] at v1;go_simp;exact hK _ _ ⟨trivial,fun _=>trivial,JA.step fun L' y' h1 h2 h3 h4=>HP.out.toLit (Nat.le_trans HSZ.out HP.out.bel.size) (h1 28 dZc dZc) (h1 30 dZc dZc) (h3 60 dZc dZc) (h4 dZc)⟩
    ·have e1:y 33=l:=(hp.out 1 dZc).2 dZc;have hL27:L 27=true:=(hp.out 27 dZc).1;have e2:y 59=y 59:=rfl;have hN28:L 28=false:=hL;have hN30:L 30=false:=by
      cases h:L 30 with
      | false=>rfl
      | true=>have:=(hcl 30 _ rfl h 28 dZc);rw [hL] at this;cases this
     obtain ⟨g,eg,hgb⟩:=HP.out.lit hL27 hN28
     replace e2:=eg
     intro K Q hK;clear hcl hL;have v1:=(ax 106 y [] (t:=33) dZc).trans e1;have v2:=(ax 106 y [] (t:=59) dZc).trans e2;obtain ⟨A,hA⟩:∃A,(⟨af 106 y,[]⟩:Act)=A:=⟨_,rfl⟩
     rw [hA] at v1 v2 hK⊢;clear hA hy hp;refine wp_append_own _ (.tmp 33) (.tmp 59) 52 rfl (w.heap.size+3) 89 i0 _ 4 40 Tryz.underlying52 HI.out HZ0.out HZ1.out HZ2.out rfl dZc _ k _ v1 (HP.out.own0 hN28) _ 1 1 [.string d.nm,.int .i64 d.wh,.int .u64 d.of,.bool d.wk] v2 rfl ?_ ?_ ?_ ?_ ?_ ?_
     ·intro j u hj;rw [cD,Nat.zero_add,hgb.cell];simpa using hj
     ·intro u hu;simp only [List.mem_cons,List.not_mem_nil,or_false] at hu;rcases hu with rfl | rfl | rfl | rfl<;>rfl
     ·have:=HLK.out;unfold maxLen;omega
     ·have:=HLK.out;omega
     ·exact Nat.le_trans HBS.out HP.out.bel.size
     ·intro v8 w8 ho8 hg8 _;exact hK _ _ ⟨trivial,fun _=>trivial,JA.step fun L' y' h1 h2 h3 h4=>HP.out.toApp HB3.out hN28 hN30 (h2 dZc) (h1 30 dZc dZc) (h4 dZc) ho8 hg8 (Nat.le_trans HSZ.out HP.out.bel.size)⟩
    ·have e1:y 3=.pointer (some ⟨(w.heap.size+2),0,none⟩):=hy.out 3 dZc;intro K Q hK;clear hcl hL;obtain ⟨A,hA,v1⟩:=evA1 (n:=106) e1 dZc;rw [hA] at hK⊢;clear hA hy hp;go_simp;exact hK _ _ ⟨trivial,fun _=>rfl,HJ.out.pure dZc dZc⟩
    ·have e1:y 61=.pointer (some ⟨(w.heap.size+2),9,none⟩):=(hp.out 29 dZc).2 dZc;have hL28:L 28=true:=(hp.out 28 dZc).1;have e2:y 60=y 60:=rfl;have hN30:L 30=false:=hL;obtain ⟨sa,sc,hu,-,-⟩:=az (HP.out.own1 hL28)
     replace e2:=hu
     have HYU:=hZz hu;have ob:=HP.out.o0 hN30;have og:=ob.lt;have q0:w9.cell? ⟨w.heap.size+2,9,none⟩=some l:=ob.cell 9;have z0:=ob.frozen 9;have HLA:=hZz hL28;have HNS:=hZz hN30;intro K Q hK;clear hcl hL;obtain ⟨A,hA,v1,v2⟩:=evA2 (n:=106) e1 e2 dZc dZc;rw [hA] at hK⊢;clear hA hy hp;go_simp;exact hK undef _ ⟨trivial,fun h=>absurd h dZc,JA.step fun L' y' h1 h2 h3 h4=>HP.out.toSt (i:=9) HB3.out HLA.out HNS.out (h1 28 dZc dZc) (h2 dZc) (h3 60 dZc dZc) (fun v=>rfl) HYU.out⟩
  ·have hki:¬(k:Int)<m.df.length:=by omega
   obtain rfl:k=m.df.length:=by omega
   go_wp2_with fail;exact HK1.out _ _ (HAFX.out _ wr l rfl rfl rfl rfl HST.out)
end Go.Proofs.YtclgbdfkdbbinaaGreat
