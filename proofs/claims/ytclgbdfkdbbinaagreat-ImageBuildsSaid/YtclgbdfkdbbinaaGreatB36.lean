/-
  What is proved here: words and contracts, a part of those that the statement rests on (B36).
  Conditions: none but that the arguments are values of their types.
-/
import Derived.Test.YtclgbdfkdbbinaaGreatB0
import Derived.Test.YtclgbdfkdbbinaaGreatB35
import Derived.Test.YtclgbdfkdbbinaaGreatB17
import Derived.Deep.Cut
import Derived.Deep.CutBlock
import Derived.Deep.DeepCutAuto
import Derived.Test.YtclgbdfkdbbinaaGreatRows
import Derived.ProofKit
import Derived.OpenShut
import Derived.Deep.Slices
import Derived.Deep.Fields
import Derived.ChangeSame
set_option linter.unusedVariables false
set_option linter.unusedSimpArgs false
set_option maxRecDepth 100000
set_option maxHeartbeats 12800000
namespace Go.Proofs.YtclgbdfkdbbinaaGreat
open Go.RowKit
structure FW (w:World) (m:Sp) (C Z:Array Value) (O:Value→Array Value) (bs:Nat) (lD:Value) (k:Nat) (l:Value) (wr:World):Prop where
 bel:Below w.heap.size w wr
 p:Blk wr w.heap.size C 47
 r:Blk wr (w.heap.size+1) Z 55
 o:Blk wr (w.heap.size+2) (O l) 55
 own:wr.ownsRow bs 99 5 l k (Fx.flat (m.fx.take k))
 dow:wr.ownsRow (w.heap.size+3) 89 4 lD m.df.length (Df.flat m.df)
 hbs:w.heap.size+3≤bs
 hbl:bs≤wr.heap.size
 hD:∀q,lD.ownBlock=some q→q<bs
def FI (w:World) (m:Sp) (C Z:Array Value) (O:Value→Array Value) (bs:Nat) (lD:Value) (k:Nat) (a:Act) (wr:World):Prop:=
 ∃(y:Nat→Value) (l:Value),a=⟨af 106 y,[]⟩∧k≤m.fx.length∧y 1=.pointer (some ⟨w.heap.size,0,none⟩)∧y 2=.pointer (some ⟨w.heap.size+1,0,none⟩)∧y 3=.pointer (some ⟨w.heap.size+2,0,none⟩)∧y 5=.int .i64 k∧FW w m C Z O bs lD k l wr
theorem FI.lit {w:World} {m:Sp} {C Z:Array Value} {O:Value→Array Value} {bs:Nat} {lD:Value} {k:Nat} {wr:World} {l:Value} (x:List Value) (hx:x.length=106) (hk:k≤m.fx.length) (h1:x.getD 1 undef=.pointer (some ⟨w.heap.size,0,none⟩)) (h2:x.getD 2 undef=.pointer (some ⟨w.heap.size+1,0,none⟩)) (h3:x.getD 3 undef=.pointer (some ⟨w.heap.size+2,0,none⟩)) (h5:x.getD 5 undef=.int .i64 k) (h:FW w m C Z O bs lD k l wr):FI w m C Z O bs lD k ⟨x.toArray,[]⟩ wr:=
 ⟨fun t=>x.getD t undef,l,by rw [ap x,hx],hk,h1,h2,h3,h5,h⟩
def zsp:Array Value:=#[.int .i64 0,.string .empty,.slice none 0 0,.int .u64 0,.slice none 0 0,.slice none 0 0,.int .u64 0,.slice none 0 0,.int .u64 0,.slice none 0 0,.slice none 0 0]
theorem sp_6 (y:Nat→Value) (m:Sp) (w:World) (B:Nat) (hB:B≤w.heap.size) (nda:Option Addr) (ndc:Nat) (coa:Option Addr) (coc:Nat) (daa:Option Addr) (dac:Nat) (tla:Option Addr) (tlc:Nat) (dfa:Option Addr) (dfc:Nat) (fxa:Option Addr) (fxc:Nat) (hfx:Fx.Sl w B fxa m.fx.length m.fx) (hl:m.fx.length≤1000) (bs:Nat) (pa:Option Addr) (pc:Nat) (wz:World) (h1:y 1=.pointer (some ⟨w.heap.size,0,none⟩)) (h2:y 2=.pointer (some ⟨w.heap.size+1,0,none⟩)) (h3:y 3=.pointer (some ⟨w.heap.size+2,0,none⟩)) (hst:FW w m #[.int .i64 m.k,.string m.so,.slice nda m.nd.length ndc,.int .u64 m.en,.slice coa m.co.length coc,.slice daa m.da.length dac,.int .u64 m.bs,.slice tla m.tl.length tlc,.int .u64 m.tb,.slice dfa m.df.length dfc,.slice fxa m.fx.length fxc] zsp (fun v=>#[.int .i64 m.k,.string m.so,.slice nda m.nd.length ndc,.int .u64 m.en,.slice coa m.co.length coc,.slice daa m.da.length dac,.int .u64 m.bs,.slice tla m.tl.length tlc,.int .u64 m.tb,.slice pa m.df.length pc,v]) bs (.slice pa m.df.length pc) 0 (.slice none 0 0) wz)
 (hfin:∀(fa:Option Addr) (fc:Nat) (w9 w8:World),FW w m #[.int .i64 m.k,.string m.so,.slice nda m.nd.length ndc,.int .u64 m.en,.slice coa m.co.length coc,.slice daa m.da.length dac,.int .u64 m.bs,.slice tla m.tl.length tlc,.int .u64 m.tb,.slice dfa m.df.length dfc,.slice fxa m.fx.length fxc] zsp (fun v=>#[.int .i64 m.k,.string m.so,.slice nda m.nd.length ndc,.int .u64 m.en,.slice coa m.co.length coc,.slice daa m.da.length dac,.int .u64 m.bs,.slice tla m.tl.length tlc,.int .u64 m.tb,.slice pa m.df.length pc,v]) bs (.slice pa m.df.length pc) m.fx.length (.slice fa m.fx.length fc) w9→Kp (w.heap.size+1) w9 w8→Below w.heap.size w w8→eH m w (.returned (.agg #[.int .i64 m.k,.string m.so,.slice nda m.nd.length ndc,.int .u64 m.en,.slice coa m.co.length coc,.slice daa m.da.length dac,.int .u64 m.bs,.slice tla m.tl.length tlc,.int .u64 m.tb,.slice pa m.df.length pc,.slice fa m.fx.length fc])) w8) :
 Code.wp Tryz.prog (aq 6 (Tryz.f17.body.getD .skip)) (bodyPost Tryz.prog Tryz.f17 (eH m w)) ⟨af 106 y,[]⟩ wz:=by
 rw [lK,h1,h2,h3];clear h1 h2 h3;conv=>arg 2;whnf
 obtain ⟨i0,hI,hz0,hz1,hz2⟩:=info_parts rH;have HI:=hZz hI;have HZ0:=hZz hz0;have HZ1:=hZz hz1;have HZ2:=hZz hz2;clear hI hz0 hz1 hz2;have HFIN:=hZz hfin;have HS0:=hZz hst;have HDD:Hid (∀k,k<m.fx.length→∃db do',fxa=some ⟨db,do',none⟩∧∀w1,Below w.heap.size w w1→Fx.At w1 db (do'+k*5) (m.fx.getD k Fx.zero)):=hZz (fun k hk=>by
  obtain ⟨db,do',e,hb,hc⟩:=(hfx.more hB).hc (Nat.lt_of_le_of_lt (Nat.zero_le _) hk);exact ⟨db,do',e,fun w1 h1=>(hc k hk).below h1 hb⟩)
 clear hfin hst hfx;go_upto_block 2 with fail
 rename_i K1 hK1;have HK1:=hZz hK1;clear hK1;refine wp_block ?_;refine gQ m.fx.length 5 (FI w m #[.int .i64 m.k,.string m.so,.slice nda m.nd.length ndc,.int .u64 m.en,.slice coa m.co.length coc,.slice daa m.da.length dac,.int .u64 m.bs,.slice tla m.tl.length tlc,.int .u64 m.tb,.slice dfa m.df.length dfc,.slice fxa m.fx.length fxc] zsp (fun v=>#[.int .i64 m.k,.string m.so,.slice nda m.nd.length ndc,.int .u64 m.en,.slice coa m.co.length coc,.slice daa m.da.length dac,.int .u64 m.bs,.slice tla m.tl.length tlc,.int .u64 m.tb,.slice pa m.df.length pc,v]) bs (.slice pa m.df.length pc)) (fun k a w1 h=>by obtain ⟨y,o,-,h,-⟩:=h;exact h) (fun k a w1 h=>by obtain ⟨y,o,rfl,-,-,-,-,h,-⟩:=h;rw [eZ y dZc,h];rfl) ?_ ?_
 ·exact FI.lit _ rfl (Nat.zero_le _) rfl rfl rfl rfl HS0.out
 ·rintro k a wr ⟨y,l,rfl,hk,h1,h2,h3,h5,hst⟩ K hK;rw [lK,h1,h2,h3,h5];have HK:=hZz hK;clear h1 h2 h3 h5 HS0 hK;have HST:=hZz hst;have s10:wr.cell? ⟨w.heap.size,10,none⟩=some (.slice fxa m.fx.length fxc):=hst.p.cell 10;have hgl:=hst.p.lt;have hgo:=hst.o.lt;have hbs:=hst.hbs;have hbl:=hst.hbl;obtain ⟨la,lc,hle,-,-⟩:=az hst.own;clear hst;by_cases hlt:k<m.fx.length
  ·have hki:(k:Int)<m.fx.length:=by omega
   obtain ⟨db,do',hda,hdc⟩:=HDD.out k hlt;subst hda;have HSU:Hid (Fx.flat (m.fx.take (k+1))=Fx.flat (m.fx.take k)++_):=hZz (by rw [Fx.take_snoc hlt];exact Fx.flat_snoc _ _);generalize m.fx.getD k Fx.zero=d at hdc HSU;have HDC:Hid (∀w1,Below (w.heap.size+2) wr.drew w1→Fx.At w1 db (do'+k*5) d):=hZz (fun w1 h1=>hdc w1 (HST.out.bel.drew.trans (h1.mono oZm)));have HBX:Hid (∀w1,Below (w.heap.size+2) wr.drew w1→Blk w1 w.heap.size #[.int .i64 m.k,.string m.so,.slice nda m.nd.length ndc,.int .u64 m.en,.slice coa m.co.length coc,.slice daa m.da.length dac,.int .u64 m.bs,.slice tla m.tl.length tlc,.int .u64 m.tb,.slice dfa m.df.length dfc,.slice (some ⟨db,do',none⟩) m.fx.length fxc] 47):=hZz (fun w1 h1=>HST.out.p.drew.below h1 oZm);have HBR:Hid (∀w1,Below (w.heap.size+2) wr.drew w1→Blk w1 (w.heap.size+1) zsp 55):=hZz (fun w1 h1=>HST.out.r.drew.below h1 oZm);have HLK:Hid (k≤1000):=hZz oZm;have HSZ:Hid (w.heap.size+2≤wr.drew.heap.size):=hZz (by show w.heap.size+2≤wr.heap.size;omega);have HBS:Hid (bs≤wr.drew.heap.size):=hZz (by show bs≤wr.heap.size;omega);have HB3:Hid (w.heap.size+3≤bs):=hZz hbs;obtain ⟨Q0,hQ0⟩:∃q,Fx.flat (m.fx.take k)=q:=⟨_,rfl⟩
   clear hdc hle;have HOW:Hid (wr.ownsRow bs 99 5 l k Q0):=hZz (hQ0▸HST.out.own);rw [hQ0] at HSU;clear hQ0 hbs hbl;go_upto_block 3 with fail
   rename_i K2 hK2;have HK2:=hZz hK2;clear hK2;refine wp_block ?_;refine cg (by kernel_rfl) 106 rfl [69,70,71,72,73,74,75,76,77,78,79,80,81,82,83,84,85,86,87,88,89,90,91,92,93,94,95,96,97,98,99,100,101,102,103,104,106] (fun _ _=>True) (aU [Is (.pointer (some ⟨(w.heap.size+2),10,none⟩)),Is (l),Is (.pointer (some ⟨w.heap.size,10,none⟩)),Is (.slice (some ⟨db,do',none⟩) m.fx.length fxc),Is (.int .i64 k),Is (.pointer (some ⟨db,do'+k*5,none⟩)),Is (.pointer (some ⟨db,do'+k*5,none⟩)),Is (.int .i64 d.wh),Is (.pointer (some ⟨w.heap.size,10,none⟩)),Is (.slice (some ⟨db,do',none⟩) m.fx.length fxc),Is (.int .i64 k),Is (.pointer (some ⟨db,do'+k*5,none⟩)),Is (.pointer (some ⟨db,do'+k*5+1,none⟩)),Is (.int .u64 d.of),Is (.pointer (some ⟨w.heap.size,10,none⟩)),Is (.slice (some ⟨db,do',none⟩) m.fx.length fxc),Is (.int .i64 k),Is (.pointer (some ⟨db,do'+k*5,none⟩)),Is (.pointer (some ⟨db,do'+k*5+2,none⟩)),Is (.int .u32 d.ty),Is (.pointer (some ⟨w.heap.size,10,none⟩)),Is (.slice (some ⟨db,do',none⟩) m.fx.length fxc),Is (.int .i64 k),Is (.pointer (some ⟨db,do'+k*5,none⟩)),Is (.pointer (some ⟨db,do'+k*5+3,none⟩)),Is (.int .i64 d.df),Is (.pointer (some ⟨w.heap.size,10,none⟩)),Is (.slice (some ⟨db,do',none⟩) m.fx.length fxc),Is (.int .i64 k),Is (.pointer (some ⟨db,do'+k*5,none⟩)),Is (.pointer (some ⟨db,do'+k*5+4,none⟩)),Is (.int .i64 d.ad),Is (.agg #[.int .i64 d.wh,.int .u64 d.of,.int .u32 d.ty,.int .i64 d.df,.int .i64 d.ad]),bD,bD,Is (.pointer (some ⟨(w.heap.size+2),10,none⟩)),bD]) (JA [33,34,36] [102,103] (PAp w wr.drew (fun v=>#[.int .i64 m.k,.string m.so,.slice nda m.nd.length ndc,.int .u64 m.en,.slice coa m.co.length coc,.slice daa m.da.length dac,.int .u64 m.bs,.slice tla m.tl.length tlc,.int .u64 m.tb,.slice pa m.df.length pc,v]) 99 bs 5 k l Q0 [.int .i64 d.wh,.int .u64 d.of,.int .u32 d.ty,.int .i64 d.df,.int .i64 d.ad] 33 34 36 102 103)) ?mono9 ?hj9 (by kernel_rfl) ?start9 ?steps9 ?fin9;case mono9=>exact aV (aa (Is.monoR _ _) (aa (Is.monoR _ _) (aa (Is.monoR _ _) (aa (Is.monoR _ _) (aa (Is.monoR _ _) (aa (Is.monoR _ _) (aa (Is.monoR _ _) (aa (Is.monoR _ _) (aa (Is.monoR _ _) (aa (Is.monoR _ _) (aa (Is.monoR _ _) (aa (Is.monoR _ _) (aa (Is.monoR _ _) (aa (Is.monoR _ _) (aa (Is.monoR _ _) (aa (Is.monoR _ _) (aa (Is.monoR _ _) (aa (Is.monoR _ _) (aa (Is.monoR _ _) (aa (Is.monoR _ _) (aa (Is.monoR _ _) (aa (Is.monoR _ _) (aa (Is.monoR _ _) (aa (Is.monoR _ _) (aa (Is.monoR _ _) (aa (Is.monoR _ _) (aa (Is.monoR _ _) (aa (Is.monoR _ _) (aa (Is.monoR _ _) (aa (Is.monoR _ _) (aa (Is.monoR _ _) (aa (Is.monoR _ _) (aa (Is.monoR _ _) (aa (bD.monoR _) (aa (bD.monoR _) (aa (Is.monoR _ _) (aa (bD.monoR _) (bN _))))))))))))))))))))))))))))))))))))))
   case hj9=>exact JA.congr dZc
   case start9=>
    refine JA.of fun L' y' h1 h2=>?_;exact ⟨Below.refl _ _,(fun h=>by rw [h1 33 (by decide)] at h;cases h),(fun _=>jl HOW.out),(fun h=>by rw [h1 34 (by decide)] at h;cases h),(fun _=>HST.out.o.drew),(fun h=>by rw [h1 36 (by decide)] at h;cases h),(fun _ _ _ _ _ a _=>a)⟩
   case fin9=>
    intro y L w9 hJ hall hF hT;have hP:=hJ.out;clear hJ hF;have o9:=hP.own1 (hall 34 dZc);have b9:=hP.o1 (hall 36 dZc);have t1:y 1=.pointer (some ⟨w.heap.size,0,none⟩):=hT 1 dZc;have t2:y 2=.pointer (some ⟨w.heap.size+1,0,none⟩):=hT 2 dZc;have t3:y 3=.pointer (some ⟨w.heap.size+2,0,none⟩):=hT 3 dZc;have t5:y 5=.int .i64 k:=hT 5 dZc;have HD:Hid (FW w m #[.int .i64 m.k,.string m.so,.slice nda m.nd.length ndc,.int .u64 m.en,.slice coa m.co.length coc,.slice daa m.da.length dac,.int .u64 m.bs,.slice tla m.tl.length tlc,.int .u64 m.tb,.slice dfa m.df.length dfc,.slice (some ⟨db,do',none⟩) m.fx.length fxc] zsp (fun v=>#[.int .i64 m.k,.string m.so,.slice nda m.nd.length ndc,.int .u64 m.en,.slice coa m.co.length coc,.slice daa m.da.length dac,.int .u64 m.bs,.slice tla m.tl.length tlc,.int .u64 m.tb,.slice pa m.df.length pc,v]) bs (.slice pa m.df.length pc) (k+1) (y 103) w9):=hZz ⟨HST.out.bel.drew.trans (hP.bel.mono oZm),HBX.out _ hP.bel,HBR.out _ hP.bel,b9,by rw [HSU.out];exact o9,hP.kp _ _ _ _ _ (jl HST.out.dow) HST.out.hD,HB3.out,Nat.le_trans HBS.out hP.bel.size,HST.out.hD⟩;clear hP hall o9 b9;refine HK2.out _ _ ?_;rw [lK,t1,t2,t3,t5];clear t1 t2 t3 t5 hT;go_wp2_with fail;exact HK.out _ _ (FI.lit _ rfl (Nat.succ_le_of_lt hlt) rfl rfl rfl rfl HD.out)
   case steps9=>
    refine ⟨?_,?_,?_,?_,?_,?_,?_,?_,?_,?_,?_,?_,?_,?_,?_,?_,?_,?_,?_,?_,?_,?_,?_,?_,?_,?_,?_,?_,?_,?_,?_,?_,?_,?_,?_,?_,?_,trivial⟩;all_goals intro L y w9 hJ hL hy0 hp0 hcl hun
    all_goals have hy:=hZz hy0
    all_goals have hp:=hZz hp0
    all_goals have HJ:=hZz hJ
    all_goals have HP:=hZz hJ.out
    all_goals have hU:=hZz hun
    all_goals clear hy0 hp0 hun hJ
    ·have e1:y 3=.pointer (some ⟨(w.heap.size+2),0,none⟩):=hy.out 3 dZc;intro K Q hK;clear hcl hL;obtain ⟨A,hA,v1⟩:=evA1 (n:=106) e1 dZc;rw [hA] at hK⊢;clear hA hy hp;go_simp;exact hK _ _ ⟨trivial,fun _=>rfl,HJ.out.pure dZc dZc⟩
    ·have e1:y 69=.pointer (some ⟨(w.heap.size+2),10,none⟩):=(hp.out 0 dZc).2 dZc;have hN36:L 36=false:=by
      cases h:L 36 with
      | false=>rfl
      | true=>have:=(hcl 34 _ rfl (hcl 36 _ rfl h 34 dZc) 1 dZc);rw [hL] at this;cases this
     have q10:w9.cell? ⟨(w.heap.size+2),10,none⟩=some (l):=(HP.out.o0 hN36).cell 10;intro K Q hK;clear hcl hL;obtain ⟨A,hA,v1⟩:=evA1 (n:=106) e1 dZc;rw [hA] at hK⊢;clear hA hy hp;go_simp;exact hK _ _ ⟨trivial,fun _=>rfl,HJ.out.pure dZc dZc⟩
    ·have e1:y 1=.pointer (some ⟨w.heap.size,0,none⟩):=hy.out 1 dZc;intro K Q hK;clear hcl hL;obtain ⟨A,hA,v1⟩:=evA1 (n:=106) e1 dZc;rw [hA] at hK⊢;clear hA hy hp;go_simp;exact hK _ _ ⟨trivial,fun _=>rfl,HJ.out.pure dZc dZc⟩
    ·have e1:y 71=.pointer (some ⟨w.heap.size,10,none⟩):=(hp.out 2 dZc).2 dZc;have hN36:L 36=false:=by
      cases h:L 36 with
      | false=>rfl
      | true=>have:=(hcl 5 _ rfl (hcl 6 _ rfl (hcl 7 _ rfl (hcl 32 _ rfl (hcl 33 _ rfl (hcl 34 _ rfl (hcl 36 _ rfl h 34 dZc) 33 dZc) 32 dZc) 7 dZc) 6 dZc) 5 dZc) 3 dZc);rw [hL] at this;cases this
     have q10:w9.cell? ⟨w.heap.size,10,none⟩=some (.slice (some ⟨db,do',none⟩) m.fx.length fxc):=(HBX.out _ HP.out.bel).cell 10;intro K Q hK;clear hcl hL;obtain ⟨A,hA,v1⟩:=evA1 (n:=106) e1 dZc;rw [hA] at hK⊢;clear hA hy hp;go_simp;exact hK _ _ ⟨trivial,fun _=>rfl,HJ.out.pure dZc dZc⟩
    ·have e1:y 5=.int .i64 k:=hy.out 5 dZc;intro K Q hK;clear hcl hL;obtain ⟨A,hA,v1⟩:=evA1 (n:=106) e1 dZc;rw [hA] at hK⊢;clear hA hy hp;go_simp;exact hK _ _ ⟨trivial,fun _=>rfl,HJ.out.pure dZc dZc⟩
    ·have e1:y 72=.slice (some ⟨db,do',none⟩) m.fx.length fxc:=(hp.out 3 dZc).2 dZc;have e2:y 73=.int .i64 k:=(hp.out 4 dZc).2 dZc;intro K Q hK;clear hcl hL;obtain ⟨A,hA,v1,v2⟩:=evA2 (n:=106) e1 e2 dZc dZc;rw [hA] at hK⊢;clear hA hy hp;go_simp;exact hK _ _ ⟨trivial,fun _=>rfl,HJ.out.pure dZc dZc⟩
    ·have e1:y 74=.pointer (some ⟨db,do'+k*5,none⟩):=(hp.out 5 dZc).2 dZc;intro K Q hK;clear hcl hL;obtain ⟨A,hA,v1⟩:=evA1 (n:=106) e1 dZc;rw [hA] at hK⊢;clear hA hy hp;go_simp;exact hK _ _ ⟨trivial,fun _=>rfl,HJ.out.pure dZc dZc⟩
    ·have e1:y 75=.pointer (some ⟨db,do'+k*5,none⟩):=(hp.out 6 dZc).2 dZc;have q0:=(HDC.out _ HP.out.bel).c0;intro K Q hK;clear hcl hL;obtain ⟨A,hA,v1⟩:=evA1 (n:=106) e1 dZc;rw [hA] at hK⊢;clear hA hy hp;go_simp;exact hK _ _ ⟨trivial,fun _=>rfl,HJ.out.pure dZc dZc⟩
    ·have e1:y 1=.pointer (some ⟨w.heap.size,0,none⟩):=hy.out 1 dZc;intro K Q hK;clear hcl hL;obtain ⟨A,hA,v1⟩:=evA1 (n:=106) e1 dZc;rw [hA] at hK⊢;clear hA hy hp;go_simp;exact hK _ _ ⟨trivial,fun _=>rfl,HJ.out.pure dZc dZc⟩
    ·have e1:y 77=.pointer (some ⟨w.heap.size,10,none⟩):=(hp.out 8 dZc).2 dZc;have hN36:L 36=false:=by
      cases h:L 36 with
      | false=>rfl
      | true=>have:=(hcl 11 _ rfl (hcl 12 _ rfl (hcl 13 _ rfl (hcl 32 _ rfl (hcl 33 _ rfl (hcl 34 _ rfl (hcl 36 _ rfl h 34 dZc) 33 dZc) 32 dZc) 13 dZc) 12 dZc) 11 dZc) 9 dZc);rw [hL] at this;cases this
     have q10:w9.cell? ⟨w.heap.size,10,none⟩=some (.slice (some ⟨db,do',none⟩) m.fx.length fxc):=(HBX.out _ HP.out.bel).cell 10;intro K Q hK;clear hcl hL;obtain ⟨A,hA,v1⟩:=evA1 (n:=106) e1 dZc;rw [hA] at hK⊢;clear hA hy hp;go_simp;exact hK _ _ ⟨trivial,fun _=>rfl,HJ.out.pure dZc dZc⟩
    ·have e1:y 5=.int .i64 k:=hy.out 5 dZc;intro K Q hK;clear hcl hL;obtain ⟨A,hA,v1⟩:=evA1 (n:=106) e1 dZc;rw [hA] at hK⊢;clear hA hy hp;go_simp;exact hK _ _ ⟨trivial,fun _=>rfl,HJ.out.pure dZc dZc⟩
    ·have e1:y 78=.slice (some ⟨db,do',none⟩) m.fx.length fxc:=(hp.out 9 dZc).2 dZc;have e2:y 79=.int .i64 k:=(hp.out 10 dZc).2 dZc;intro K Q hK;clear hcl hL;obtain ⟨A,hA,v1,v2⟩:=evA2 (n:=106) e1 e2 dZc dZc;rw [hA] at hK⊢;clear hA hy hp;go_simp;exact hK _ _ ⟨trivial,fun _=>rfl,HJ.out.pure dZc dZc⟩
    ·have e1:y 80=.pointer (some ⟨db,do'+k*5,none⟩):=(hp.out 11 dZc).2 dZc;intro K Q hK;clear hcl hL;obtain ⟨A,hA,v1⟩:=evA1 (n:=106) e1 dZc;rw [hA] at hK⊢;clear hA hy hp;go_simp;exact hK _ _ ⟨trivial,fun _=>rfl,HJ.out.pure dZc dZc⟩
    ·have e1:y 81=.pointer (some ⟨db,do'+k*5+1,none⟩):=(hp.out 12 dZc).2 dZc;have q0:=(HDC.out _ HP.out.bel).c1;intro K Q hK;clear hcl hL;obtain ⟨A,hA,v1⟩:=evA1 (n:=106) e1 dZc;rw [hA] at hK⊢;clear hA hy hp;go_simp;exact hK _ _ ⟨trivial,fun _=>rfl,HJ.out.pure dZc dZc⟩
    ·have e1:y 1=.pointer (some ⟨w.heap.size,0,none⟩):=hy.out 1 dZc;intro K Q hK;clear hcl hL;obtain ⟨A,hA,v1⟩:=evA1 (n:=106) e1 dZc;rw [hA] at hK⊢;clear hA hy hp;go_simp;exact hK _ _ ⟨trivial,fun _=>rfl,HJ.out.pure dZc dZc⟩
    ·have e1:y 83=.pointer (some ⟨w.heap.size,10,none⟩):=(hp.out 14 dZc).2 dZc;have hN36:L 36=false:=by
      cases h:L 36 with
      | false=>rfl
      | true=>have:=(hcl 17 _ rfl (hcl 18 _ rfl (hcl 19 _ rfl (hcl 32 _ rfl (hcl 33 _ rfl (hcl 34 _ rfl (hcl 36 _ rfl h 34 dZc) 33 dZc) 32 dZc) 19 dZc) 18 dZc) 17 dZc) 15 dZc);rw [hL] at this;cases this
     have q10:w9.cell? ⟨w.heap.size,10,none⟩=some (.slice (some ⟨db,do',none⟩) m.fx.length fxc):=(HBX.out _ HP.out.bel).cell 10;intro K Q hK;clear hcl hL;obtain ⟨A,hA,v1⟩:=evA1 (n:=106) e1 dZc;rw [hA] at hK⊢;clear hA hy hp;go_simp;exact hK _ _ ⟨trivial,fun _=>rfl,HJ.out.pure dZc dZc⟩
    ·have e1:y 5=.int .i64 k:=hy.out 5 dZc;intro K Q hK;clear hcl hL;obtain ⟨A,hA,v1⟩:=evA1 (n:=106) e1 dZc;rw [hA] at hK⊢;clear hA hy hp;go_simp;exact hK _ _ ⟨trivial,fun _=>rfl,HJ.out.pure dZc dZc⟩
    ·have e1:y 84=.slice (some ⟨db,do',none⟩) m.fx.length fxc:=(hp.out 15 dZc).2 dZc;have e2:y 85=.int .i64 k:=(hp.out 16 dZc).2 dZc;intro K Q hK;clear hcl hL;obtain ⟨A,hA,v1,v2⟩:=evA2 (n:=106) e1 e2 dZc dZc;rw [hA] at hK⊢;clear hA hy hp;go_simp;exact hK _ _ ⟨trivial,fun _=>rfl,HJ.out.pure dZc dZc⟩
    ·have e1:y 86=.pointer (some ⟨db,do'+k*5,none⟩):=(hp.out 17 dZc).2 dZc;intro K Q hK;clear hcl hL;obtain ⟨A,hA,v1⟩:=evA1 (n:=106) e1 dZc;rw [hA] at hK⊢;clear hA hy hp;go_simp;exact hK _ _ ⟨trivial,fun _=>rfl,HJ.out.pure dZc dZc⟩
    ·have e1:y 87=.pointer (some ⟨db,do'+k*5+2,none⟩):=(hp.out 18 dZc).2 dZc;have q0:=(HDC.out _ HP.out.bel).c2;intro K Q hK;clear hcl hL;obtain ⟨A,hA,v1⟩:=evA1 (n:=106) e1 dZc;rw [hA] at hK⊢;clear hA hy hp;go_simp;exact hK _ _ ⟨trivial,fun _=>rfl,HJ.out.pure dZc dZc⟩
    ·have e1:y 1=.pointer (some ⟨w.heap.size,0,none⟩):=hy.out 1 dZc;intro K Q hK;clear hcl hL;obtain ⟨A,hA,v1⟩:=evA1 (n:=106) e1 dZc;rw [hA] at hK⊢;clear hA hy hp;go_simp;exact hK _ _ ⟨trivial,fun _=>rfl,HJ.out.pure dZc dZc⟩
    ·have e1:y 89=.pointer (some ⟨w.heap.size,10,none⟩):=(hp.out 20 dZc).2 dZc;have hN36:L 36=false:=by
      cases h:L 36 with
      | false=>rfl
      | true=>have:=(hcl 23 _ rfl (hcl 24 _ rfl (hcl 25 _ rfl (hcl 32 _ rfl (hcl 33 _ rfl (hcl 34 _ rfl (hcl 36 _ rfl h 34 dZc) 33 dZc) 32 dZc) 25 dZc) 24 dZc) 23 dZc) 21 dZc);rw [hL] at this;cases this
     have q10:w9.cell? ⟨w.heap.size,10,none⟩=some (.slice (some ⟨db,do',none⟩) m.fx.length fxc):=(HBX.out _ HP.out.bel).cell 10;intro K Q hK;clear hcl hL;obtain ⟨A,hA,v1⟩:=evA1 (n:=106) e1 dZc;rw [hA] at hK⊢;clear hA hy hp;go_simp;exact hK _ _ ⟨trivial,fun _=>rfl,HJ.out.pure dZc dZc⟩
    ·have e1:y 5=.int .i64 k:=hy.out 5 dZc;intro K Q hK;clear hcl hL;obtain ⟨A,hA,v1⟩:=evA1 (n:=106) e1 dZc;rw [hA] at hK⊢;clear hA hy hp;go_simp;exact hK _ _ ⟨trivial,fun _=>rfl,HJ.out.pure dZc dZc⟩
    ·have e1:y 90=.slice (some ⟨db,do',none⟩) m.fx.length fxc:=(hp.out 21 dZc).2 dZc;have e2:y 91=.int .i64 k:=(hp.out 22 dZc).2 dZc;intro K Q hK;clear hcl hL;obtain ⟨A,hA,v1,v2⟩:=evA2 (n:=106) e1 e2 dZc dZc;rw [hA] at hK⊢;clear hA hy hp;go_simp;exact hK _ _ ⟨trivial,fun _=>rfl,HJ.out.pure dZc dZc⟩
    ·have e1:y 92=.pointer (some ⟨db,do'+k*5,none⟩):=(hp.out 23 dZc).2 dZc;intro K Q hK;clear hcl hL;obtain ⟨A,hA,v1⟩:=evA1 (n:=106) e1 dZc;rw [hA] at hK⊢;clear hA hy hp;go_simp;exact hK _ _ ⟨trivial,fun _=>rfl,HJ.out.pure dZc dZc⟩
    ·have e1:y 93=.pointer (some ⟨db,do'+k*5+3,none⟩):=(hp.out 24 dZc).2 dZc;have q0:=(HDC.out _ HP.out.bel).c3;intro K Q hK;clear hcl hL;obtain ⟨A,hA,v1⟩:=evA1 (n:=106) e1 dZc;rw [hA] at hK⊢;clear hA hy hp;go_simp;exact hK _ _ ⟨trivial,fun _=>rfl,HJ.out.pure dZc dZc⟩
    ·have e1:y 1=.pointer (some ⟨w.heap.size,0,none⟩):=hy.out 1 dZc;intro K Q hK;clear hcl hL;obtain ⟨A,hA,v1⟩:=evA1 (n:=106) e1 dZc;rw [hA] at hK⊢;clear hA hy hp;go_simp;exact hK _ _ ⟨trivial,fun _=>rfl,HJ.out.pure dZc dZc⟩
    ·have e1:y 95=.pointer (some ⟨w.heap.size,10,none⟩):=(hp.out 26 dZc).2 dZc;have hN36:L 36=false:=by
      cases h:L 36 with
      | false=>rfl
      | true=>have:=(hcl 29 _ rfl (hcl 30 _ rfl (hcl 31 _ rfl (hcl 32 _ rfl (hcl 33 _ rfl (hcl 34 _ rfl (hcl 36 _ rfl h 34 dZc) 33 dZc) 32 dZc) 31 dZc) 30 dZc) 29 dZc) 27 dZc);rw [hL] at this;cases this
     have q10:w9.cell? ⟨w.heap.size,10,none⟩=some (.slice (some ⟨db,do',none⟩) m.fx.length fxc):=(HBX.out _ HP.out.bel).cell 10;intro K Q hK;clear hcl hL;obtain ⟨A,hA,v1⟩:=evA1 (n:=106) e1 dZc;rw [hA] at hK⊢;clear hA hy hp;go_simp;exact hK _ _ ⟨trivial,fun _=>rfl,HJ.out.pure dZc dZc⟩
    ·have e1:y 5=.int .i64 k:=hy.out 5 dZc;intro K Q hK;clear hcl hL;obtain ⟨A,hA,v1⟩:=evA1 (n:=106) e1 dZc;rw [hA] at hK⊢;clear hA hy hp;go_simp;exact hK _ _ ⟨trivial,fun _=>rfl,HJ.out.pure dZc dZc⟩
    ·have e1:y 96=.slice (some ⟨db,do',none⟩) m.fx.length fxc:=(hp.out 27 dZc).2 dZc;have e2:y 97=.int .i64 k:=(hp.out 28 dZc).2 dZc;intro K Q hK;clear hcl hL;obtain ⟨A,hA,v1,v2⟩:=evA2 (n:=106) e1 e2 dZc dZc;rw [hA] at hK⊢;clear hA hy hp;go_simp;exact hK _ _ ⟨trivial,fun _=>rfl,HJ.out.pure dZc dZc⟩
    ·have e1:y 98=.pointer (some ⟨db,do'+k*5,none⟩):=(hp.out 29 dZc).2 dZc;intro K Q hK;clear hcl hL;obtain ⟨A,hA,v1⟩:=evA1 (n:=106) e1 dZc;rw [hA] at hK⊢;clear hA hy hp;go_simp;exact hK _ _ ⟨trivial,fun _=>rfl,HJ.out.pure dZc dZc⟩
    ·have e1:y 99=.pointer (some ⟨db,do'+k*5+4,none⟩):=(hp.out 30 dZc).2 dZc;have q0:=(HDC.out _ HP.out.bel).c4;intro K Q hK;clear hcl hL;obtain ⟨A,hA,v1⟩:=evA1 (n:=106) e1 dZc;rw [hA] at hK⊢;clear hA hy hp;go_simp;exact hK _ _ ⟨trivial,fun _=>rfl,HJ.out.pure dZc dZc⟩
    ·have e1:y 76=.int .i64 d.wh:=(hp.out 7 dZc).2 dZc;have e2:y 82=.int .u64 d.of:=(hp.out 13 dZc).2 dZc;have e3:y 88=.int .u32 d.ty:=(hp.out 19 dZc).2 dZc;have e4:y 94=.int .i64 d.df:=(hp.out 25 dZc).2 dZc;have e5:y 100=.int .i64 d.ad:=(hp.out 31 dZc).2 dZc;intro K Q hK;clear hcl hL;have v1:=(ax 106 y [] (t:=76) dZc).trans e1;have v2:=(ax 106 y [] (t:=82) dZc).trans e2;have v3:=(ax 106 y [] (t:=88) dZc).trans e3;have v4:=(ax 106 y [] (t:=94) dZc).trans e4;have v5:=(ax 106 y [] (t:=100) dZc).trans e5;obtain ⟨A,hA⟩:∃A,(⟨af 106 y,[]⟩:Act)=A:=⟨_,rfl⟩
     rw [hA] at v1 v2 v3 v4 v5 hK⊢;clear hA hy hp;simp only [Act.eval] at v1 v2 v3 v4 v5;rw [Array.getD_eq_getD_getElem?] at v1 v2 v3 v4 v5;go_simp;exact hK _ _ ⟨trivial,fun _=>rfl,HJ.out.pure dZc dZc⟩
    ·have e1:y 101=.agg #[.int .i64 d.wh,.int .u64 d.of,.int .u32 d.ty,.int .i64 d.df,.int .i64 d.ad]:=(hp.out 32 dZc).2 dZc;have hN34:L 34=false:=by
      cases h:L 34 with
      | false=>rfl
      | true=>have:=(hcl 34 _ rfl h 33 dZc);rw [hL] at this;cases this
     have hN36:L 36=false:=by
      cases h:L 36 with
      | false=>rfl
      | true=>have:=(hcl 34 _ rfl (hcl 36 _ rfl h 34 dZc) 33 dZc);rw [hL] at this;cases this
     intro K Q hK;clear hcl hL;obtain ⟨A,hA,v1⟩:=evA1 (n:=106) e1 dZc;rw [hA] at hK⊢;clear hA hy hp;rw [Array.getD_eq_getD_getElem?] at v1;go_simp;exact hK _ _ ⟨trivial,fun _=>trivial,JA.step fun L' y' h1 h2 h3 h4=>HP.out.toLit (Nat.le_trans HSZ.out HP.out.bel.size) (h1 34 dZc dZc) (h1 36 dZc dZc) (h3 103 dZc dZc) (h4 dZc)⟩
    ·have e1:y 70=l:=(hp.out 1 dZc).2 dZc;have hL33:L 33=true:=(hp.out 33 dZc).1;have e2:y 102=y 102:=rfl;have hN34:L 34=false:=hL;have hN36:L 36=false:=by
      cases h:L 36 with
      | false=>rfl
      | true=>have:=(hcl 36 _ rfl h 34 dZc);rw [hL] at this;cases this
     obtain ⟨g,eg,hgb⟩:=HP.out.lit hL33 hN34
     replace e2:=eg
     intro K Q hK;clear hcl hL;have v1:=(ax 106 y [] (t:=70) dZc).trans e1;have v2:=(ax 106 y [] (t:=102) dZc).trans e2;obtain ⟨A,hA⟩:∃A,(⟨af 106 y,[]⟩:Act)=A:=⟨_,rfl⟩
     rw [hA] at v1 v2 hK⊢;clear hA hy hp;refine wp_append_own _ (.tmp 70) (.tmp 102) 53 rfl bs 99 i0 _ 5 40 Tryz.underlying53 HI.out HZ0.out HZ1.out HZ2.out rfl dZc _ k _ v1 (HP.out.own0 hN34) _ 1 1 [.int .i64 d.wh,.int .u64 d.of,.int .u32 d.ty,.int .i64 d.df,.int .i64 d.ad] v2 rfl ?_ ?_ ?_ ?_ ?_ ?_
     ·intro j u hj;rw [cD,Nat.zero_add,hgb.cell];simpa using hj
     ·intro u hu;simp only [List.mem_cons,List.not_mem_nil,or_false] at hu;rcases hu with rfl | rfl | rfl | rfl | rfl<;>rfl
     ·have:=HLK.out;unfold maxLen;omega
     ·have:=HLK.out;omega
     ·exact Nat.le_trans HBS.out HP.out.bel.size
     ·intro v8 w8 ho8 hg8 _;exact hK _ _ ⟨trivial,fun _=>trivial,JA.step fun L' y' h1 h2 h3 h4=>HP.out.toApp HB3.out hN34 hN36 (h2 dZc) (h1 36 dZc dZc) (h4 dZc) ho8 hg8 (Nat.le_trans HSZ.out HP.out.bel.size)⟩
    ·have e1:y 3=.pointer (some ⟨(w.heap.size+2),0,none⟩):=hy.out 3 dZc;intro K Q hK;clear hcl hL;obtain ⟨A,hA,v1⟩:=evA1 (n:=106) e1 dZc;rw [hA] at hK⊢;clear hA hy hp;go_simp;exact hK _ _ ⟨trivial,fun _=>rfl,HJ.out.pure dZc dZc⟩
    ·have e1:y 104=.pointer (some ⟨(w.heap.size+2),10,none⟩):=(hp.out 35 dZc).2 dZc;have hL34:L 34=true:=(hp.out 34 dZc).1;have e2:y 103=y 103:=rfl;have hN36:L 36=false:=hL;obtain ⟨sa,sc,hu,-,-⟩:=az (HP.out.own1 hL34)
     replace e2:=hu
     have HYU:=hZz hu;have ob:=HP.out.o0 hN36;have og:=ob.lt;have q0:w9.cell? ⟨w.heap.size+2,10,none⟩=some l:=ob.cell 10;have z0:=ob.frozen 10;have HLA:=hZz hL34;have HNS:=hZz hN36;intro K Q hK;clear hcl hL;obtain ⟨A,hA,v1,v2⟩:=evA2 (n:=106) e1 e2 dZc dZc;rw [hA] at hK⊢;clear hA hy hp;go_simp;exact hK undef _ ⟨trivial,fun h=>absurd h dZc,JA.step fun L' y' h1 h2 h3 h4=>HP.out.toSt (i:=10) HB3.out HLA.out HNS.out (h1 34 dZc dZc) (h2 dZc) (h3 103 dZc dZc) (fun v=>rfl) HYU.out⟩
  ·have hki:¬(k:Int)<m.fx.length:=by omega
   obtain rfl:k=m.fx.length:=by omega
   subst hle;have HBO:=hZz HST.out.o;have HBR:=hZz HST.out.r;obtain ⟨q0,q1,q2,q3,q4,q5,q6,q7,q8,q9,q10⟩:wr.cell? ⟨w.heap.size+1,0,none⟩=some (.int .i64 0)∧wr.cell? ⟨w.heap.size+1,1,none⟩=some (.string .empty)∧wr.cell? ⟨w.heap.size+1,2,none⟩=some (.slice none 0 0)∧wr.cell? ⟨w.heap.size+1,3,none⟩=some (.int .u64 0)∧wr.cell? ⟨w.heap.size+1,4,none⟩=some (.slice none 0 0)∧wr.cell? ⟨w.heap.size+1,5,none⟩=some (.slice none 0 0)∧wr.cell? ⟨w.heap.size+1,6,none⟩=some (.int .u64 0)∧wr.cell? ⟨w.heap.size+1,7,none⟩=some (.slice none 0 0)∧wr.cell? ⟨w.heap.size+1,8,none⟩=some (.int .u64 0)∧wr.cell? ⟨w.heap.size+1,9,none⟩=some (.slice none 0 0)∧wr.cell? ⟨w.heap.size+1,10,none⟩=some (.slice none 0 0):=⟨HBR.out.cell 0,HBR.out.cell 1,HBR.out.cell 2,HBR.out.cell 3,HBR.out.cell 4,HBR.out.cell 5,HBR.out.cell 6,HBR.out.cell 7,HBR.out.cell 8,HBR.out.cell 9,HBR.out.cell 10⟩
   obtain ⟨f0,f1,f2,f3,f4,f5,f6,f7,f8,f9,f10⟩:wr.frozen? ⟨w.heap.size+1,0,none⟩=false∧wr.frozen? ⟨w.heap.size+1,1,none⟩=false∧wr.frozen? ⟨w.heap.size+1,2,none⟩=false∧wr.frozen? ⟨w.heap.size+1,3,none⟩=false∧wr.frozen? ⟨w.heap.size+1,4,none⟩=false∧wr.frozen? ⟨w.heap.size+1,5,none⟩=false∧wr.frozen? ⟨w.heap.size+1,6,none⟩=false∧wr.frozen? ⟨w.heap.size+1,7,none⟩=false∧wr.frozen? ⟨w.heap.size+1,8,none⟩=false∧wr.frozen? ⟨w.heap.size+1,9,none⟩=false∧wr.frozen? ⟨w.heap.size+1,10,none⟩=false:=⟨HBR.out.frozen 0,HBR.out.frozen 1,HBR.out.frozen 2,HBR.out.frozen 3,HBR.out.frozen 4,HBR.out.frozen 5,HBR.out.frozen 6,HBR.out.frozen 7,HBR.out.frozen 8,HBR.out.frozen 9,HBR.out.frozen 10⟩
   obtain ⟨x0,x1,x2,x3,x4,x5,x6,x7,x8,x9,x10⟩:wr.cell? ⟨w.heap.size+2,0,none⟩=some (.int .i64 m.k)∧wr.cell? ⟨w.heap.size+2,1,none⟩=some (.string m.so)∧wr.cell? ⟨w.heap.size+2,2,none⟩=some (.slice nda m.nd.length ndc)∧wr.cell? ⟨w.heap.size+2,3,none⟩=some (.int .u64 m.en)∧wr.cell? ⟨w.heap.size+2,4,none⟩=some (.slice coa m.co.length coc)∧wr.cell? ⟨w.heap.size+2,5,none⟩=some (.slice daa m.da.length dac)∧wr.cell? ⟨w.heap.size+2,6,none⟩=some (.int .u64 m.bs)∧wr.cell? ⟨w.heap.size+2,7,none⟩=some (.slice tla m.tl.length tlc)∧wr.cell? ⟨w.heap.size+2,8,none⟩=some (.int .u64 m.tb)∧wr.cell? ⟨w.heap.size+2,9,none⟩=some (.slice pa m.df.length pc)∧wr.cell? ⟨w.heap.size+2,10,none⟩=some (.slice la m.fx.length lc):=⟨HBO.out.cell 0,HBO.out.cell 1,HBO.out.cell 2,HBO.out.cell 3,HBO.out.cell 4,HBO.out.cell 5,HBO.out.cell 6,HBO.out.cell 7,HBO.out.cell 8,HBO.out.cell 9,HBO.out.cell 10⟩
   go_wp2_with fail;refine HK1.out _ _ ?_;go_wp2;refine bodyPost_ret (v:=.agg #[.int .i64 m.k,.string m.so,.slice nda m.nd.length ndc,.int .u64 m.en,.slice coa m.co.length coc,.slice daa m.da.length dac,.int .u64 m.bs,.slice tla m.tl.length tlc,.int .u64 m.tb,.slice pa m.df.length pc,.slice la m.fx.length lc]) (by simp [results,Tryz.results17,go_sem,q0,q1,q2,q3,q4,q5,q6,q7,q8,q9,q10]) rfl (HFIN.out la lc wr _ HST.out (Kp.eleven wr (w.heap.size+1) (.int .i64 m.k) (.string m.so) (.slice nda m.nd.length ndc) (.int .u64 m.en) (.slice coa m.co.length coc) (.slice daa m.da.length dac) (.int .u64 m.bs) (.slice tla m.tl.length tlc) (.int .u64 m.tb) (.slice pa m.df.length pc) (.slice la m.fx.length lc)) (gu HST.out.bel (Nat.le_succ _) (.int .i64 m.k) (.string m.so) (.slice nda m.nd.length ndc) (.int .u64 m.en) (.slice coa m.co.length coc) (.slice daa m.da.length dac) (.int .u64 m.bs) (.slice tla m.tl.length tlc) (.int .u64 m.tb) (.slice pa m.df.length pc) (.slice la m.fx.length lc)))
theorem sp_2x (x:List Value) (hxl:x.length=106) (m:Sp) (w:World) (B:Nat) (hB:B≤w.heap.size) (nda:Option Addr) (ndc:Nat) (coa:Option Addr) (coc:Nat) (daa:Option Addr) (dac:Nat) (tla:Option Addr) (tlc:Nat) (dfa:Option Addr) (dfc:Nat) (fxa:Option Addr) (fxc:Nat) (Z:Array Value) (hdf:Df.Sl w B dfa m.df.length m.df) (hl:m.df.length≤1000) (wz:World) (h1:x.getD 1 undef=.pointer (some ⟨w.heap.size,0,none⟩)) (h2:x.getD 2 undef=.pointer (some ⟨w.heap.size+1,0,none⟩)) (h3:x.getD 3 undef=.pointer (some ⟨w.heap.size+2,0,none⟩)) (hst:DW w m #[.int .i64 m.k,.string m.so,.slice nda m.nd.length ndc,.int .u64 m.en,.slice coa m.co.length coc,.slice daa m.da.length dac,.int .u64 m.bs,.slice tla m.tl.length tlc,.int .u64 m.tb,.slice dfa m.df.length dfc,.slice fxa m.fx.length fxc] Z (fun v=>#[.int .i64 m.k,.string m.so,.slice nda m.nd.length ndc,.int .u64 m.en,.slice coa m.co.length coc,.slice daa m.da.length dac,.int .u64 m.bs,.slice tla m.tl.length tlc,.int .u64 m.tb,v,.slice none 0 0]) 0 (.slice none 0 0) wz)
 (haf:∀(x:List Value) (w9:World) (l:Value),x.length=106→x.getD 1 undef=.pointer (some ⟨w.heap.size,0,none⟩)→x.getD 2 undef=.pointer (some ⟨w.heap.size+1,0,none⟩)→x.getD 3 undef=.pointer (some ⟨w.heap.size+2,0,none⟩)→DW w m #[.int .i64 m.k,.string m.so,.slice nda m.nd.length ndc,.int .u64 m.en,.slice coa m.co.length coc,.slice daa m.da.length dac,.int .u64 m.bs,.slice tla m.tl.length tlc,.int .u64 m.tb,.slice dfa m.df.length dfc,.slice fxa m.fx.length fxc] Z (fun v=>#[.int .i64 m.k,.string m.so,.slice nda m.nd.length ndc,.int .u64 m.en,.slice coa m.co.length coc,.slice daa m.da.length dac,.int .u64 m.bs,.slice tla m.tl.length tlc,.int .u64 m.tb,v,.slice none 0 0]) m.df.length l w9→Code.wp Tryz.prog (aq 6 (Tryz.f17.body.getD .skip)) (bodyPost Tryz.prog Tryz.f17 (eH m w)) ⟨x.toArray,[]⟩ w9) :
 Code.wp Tryz.prog (aq 2 (Tryz.f17.body.getD .skip)) (bodyPost Tryz.prog Tryz.f17 (eH m w)) ⟨x.toArray,[]⟩ wz:=by
 rw [ap x,hxl];exact sp_2 (fun t=>x.getD t undef) m w B hB nda ndc coa coc daa dac tla tlc dfa dfc fxa fxc Z hdf hl wz h1 h2 h3 hst haf
theorem rs (B:Nat) (x:Spv) (m:Sp) (w:World) (h:x.Is w B m) (hB:B≤w.heap.size) (hnil:aC x) (l2:m.df.length≤1000) (l3:m.fx.length≤1000) :
 Calls Tryz.prog 17 #[x.val] w (eH m w):=by
 have hk:=h.k;have hso:=h.so;have hnl:=h.nd.1;have hcl:=h.co.1;have hdl:=h.da.1;have htl:=h.tl.1;have hfl:=h.df.hl;have hxl:=h.fx.hl;have hen:=h.en;have hbs:=h.bs;have htb:=h.tb;obtain ⟨k,so,⟨nda,ndn,ndc⟩,en,⟨coa,con,coc⟩,⟨daa,dan,dac⟩,bz,⟨tla,tln,tlc⟩,tz,⟨dfa,dfn,dfc⟩,⟨fxa,fxn,fxc⟩⟩:=x;simp only at hk hso hnl hcl hdl htl hfl hxl hen hbs htb;subst hk hso hnl hcl hdl htl hfl hxl hen hbs htb;have HX:=hZz h;have HNIL:=hZz hnil;unfold Spv.val;simp only
 have HBX0:Hid (Blk ((w.alloc (.cells #[.int .i64 m.k,.string m.so,.slice nda m.nd.length ndc,.int .u64 m.en,.slice coa m.co.length coc,.slice daa m.da.length dac,.int .u64 m.bs,.slice tla m.tl.length tlc,.int .u64 m.tb,.slice dfa m.df.length dfc,.slice fxa m.fx.length fxc] 47)).alloc (.cells zsp 55)) w.heap.size #[.int .i64 m.k,.string m.so,.slice nda m.nd.length ndc,.int .u64 m.en,.slice coa m.co.length coc,.slice daa m.da.length dac,.int .u64 m.bs,.slice tla m.tl.length tlc,.int .u64 m.tb,.slice dfa m.df.length dfc,.slice fxa m.fx.length fxc] 47):=hZz ((Blk.new _ _ _).alloc _);have HBR0:Hid (Blk ((w.alloc (.cells #[.int .i64 m.k,.string m.so,.slice nda m.nd.length ndc,.int .u64 m.en,.slice coa m.co.length coc,.slice daa m.da.length dac,.int .u64 m.bs,.slice tla m.tl.length tlc,.int .u64 m.tb,.slice dfa m.df.length dfc,.slice fxa m.fx.length fxc] 47)).alloc (.cells zsp 55)) (w.heap.size+1) zsp 55):=hZz (by have q:=Blk.new (w.alloc (.cells #[.int .i64 m.k,.string m.so,.slice nda m.nd.length ndc,.int .u64 m.en,.slice coa m.co.length coc,.slice daa m.da.length dac,.int .u64 m.bs,.slice tla m.tl.length tlc,.int .u64 m.tb,.slice dfa m.df.length dfc,.slice fxa m.fx.length fxc] 47)) zsp 55;rw [World.size_alloc] at q;exact q);have HBE0:Hid (Below w.heap.size w ((w.alloc (.cells #[.int .i64 m.k,.string m.so,.slice nda m.nd.length ndc,.int .u64 m.en,.slice coa m.co.length coc,.slice daa m.da.length dac,.int .u64 m.bs,.slice tla m.tl.length tlc,.int .u64 m.tb,.slice dfa m.df.length dfc,.slice fxa m.fx.length fxc] 47)).alloc (.cells zsp 55))):=hZz (((Below.refl _ _).alloc (lZr _) _).alloc (by simp) _);have hws:((w.alloc (.cells #[.int .i64 m.k,.string m.so,.slice nda m.nd.length ndc,.int .u64 m.en,.slice coa m.co.length coc,.slice daa m.da.length dac,.int .u64 m.bs,.slice tla m.tl.length tlc,.int .u64 m.tb,.slice dfa m.df.length dfc,.slice fxa m.fx.length fxc] 47)).alloc (.cells zsp 55)).heap.size=w.heap.size+2:=by simp
 have HAF:Hid (∀(x:List Value),x.length=106→∀w9,x.getD 1 undef=.pointer (some ⟨w.heap.size,0,none⟩)→x.getD 2 undef=.pointer (some ⟨w.heap.size+1,0,none⟩)→x.getD 3 undef=.pointer (some ⟨w.heap.size+2,0,none⟩)→DW w m #[.int .i64 m.k,.string m.so,.slice nda m.nd.length ndc,.int .u64 m.en,.slice coa m.co.length coc,.slice daa m.da.length dac,.int .u64 m.bs,.slice tla m.tl.length tlc,.int .u64 m.tb,.slice dfa m.df.length dfc,.slice fxa m.fx.length fxc] zsp (fun v=>#[.int .i64 m.k,.string m.so,.slice nda m.nd.length ndc,.int .u64 m.en,.slice coa m.co.length coc,.slice daa m.da.length dac,.int .u64 m.bs,.slice tla m.tl.length tlc,.int .u64 m.tb,v,.slice none 0 0]) 0 (.slice none 0 0) w9→Code.wp Tryz.prog (aq 2 (Tryz.f17.body.getD .skip)) (bodyPost Tryz.prog Tryz.f17 (eH m w)) ⟨x.toArray,[]⟩ w9):=hZz (fun x hxl w9 h1 h2 h3 hd=>sp_2x x hxl m w B hB nda ndc coa coc daa dac tla tlc dfa dfc fxa fxc zsp HX.out.df l2 w9 h1 h2 h3 hd (fun x w9 l hxl h1 h2 h3 hd=>by
  obtain ⟨pa,pc,rfl,hp1,hp2⟩:=az hd.own;have hown:=hd.own;rw [List.take_length] at hown;rw [ap x,hxl];refine sp_6 (fun t=>x.getD t undef) m w B hB nda ndc coa coc daa dac tla tlc dfa dfc fxa fxc HX.out.fx l3 w9.heap.size pa pc w9 h1 h2 h3 ⟨hd.bel,hd.p,hd.r,hd.o,World.ownsRow_nil _ _ _ _,hown,hd.o.lt,lZr _,fun q hq=>(hown.lt q hq).2⟩ ?_;intro fa fc w7 w8 hf hkp hbel;obtain ⟨fa',fc',hfe,hf1,hf2⟩:=az hf.own;injection hfe with _ _ e3;subst e3;have hfo:=cd hkp hf.own (by have:=hf.hbs;omega);have hdo:=cd hkp hf.dow oZm;rw [List.take_length] at hfo;have hX:=HX.out;refine ⟨⟨m.k,m.so,⟨nda,m.nd.length,ndc⟩,m.en,⟨coa,m.co.length,coc⟩,⟨daa,m.da.length,dac⟩,m.bs,⟨tla,m.tl.length,tlc⟩,m.tb,⟨pa,m.df.length,pc⟩,⟨fa,m.fx.length,fc⟩⟩,rfl,?_,⟨HNIL.out.nd,HNIL.out.co,HNIL.out.da,HNIL.out.tl⟩,hbel⟩;have hb8:=hbel.mono hB;have hs8:=Nat.le_trans hB hbel.size;exact ⟨rfl,rfl,(hX.nd.below hb8).more hs8,rfl,(hX.co.below hb8).more hs8,(hX.da.below hb8).more hs8,rfl,(hX.tl.below hb8).more hs8,rfl,Df.Sl.own (fun s hs=>((hX.df.hok s hs).below hb8).more hs8) hdo,Fx.Sl.own (fun s hs=>((hX.fx.hok s hs).below hb8).more hs8) hfo,hX.ond,hX.oco,hX.oda,hX.otl,⟨hp1,hp2⟩,⟨hf1,hf2⟩,hX.bk,hX.ben,hX.bbs,hX.btb⟩))
 clear h hnil;go_enter Tryz.func17,Tryz.ntmps17
 refine wp_seq_k fun K0 hK0=>?_;have HK0:=hZz hK0;clear hK0;go_wp2_with fail;refine HK0.out _ _ ?_;change Code.wp _ _ _ _ ((w.alloc (.cells #[.int .i64 m.k,.string m.so,.slice nda m.nd.length ndc,.int .u64 m.en,.slice coa m.co.length coc,.slice daa m.da.length dac,.int .u64 m.bs,.slice tla m.tl.length tlc,.int .u64 m.tb,.slice dfa m.df.length dfc,.slice fxa m.fx.length fxc] 47)).alloc (.cells zsp 55));obtain ⟨w2,hw2⟩:∃w2,w2=((w.alloc (.cells #[.int .i64 m.k,.string m.so,.slice nda m.nd.length ndc,.int .u64 m.en,.slice coa m.co.length coc,.slice daa m.da.length dac,.int .u64 m.bs,.slice tla m.tl.length tlc,.int .u64 m.tb,.slice dfa m.df.length dfc,.slice fxa m.fx.length fxc] 47)).alloc (.cells zsp 55)):=⟨_,rfl⟩
 rw [←hw2] at HBX0 HBR0 HBE0 hws⊢;clear hw2;obtain ⟨q0,q1,q2,q3,q4,q5,q6,q7,q8,q9,q10⟩:w2.cell? ⟨w.heap.size,0,none⟩=some (.int .i64 m.k)∧w2.cell? ⟨w.heap.size,1,none⟩=some (.string m.so)∧w2.cell? ⟨w.heap.size,2,none⟩=some (.slice nda m.nd.length ndc)∧w2.cell? ⟨w.heap.size,3,none⟩=some (.int .u64 m.en)∧w2.cell? ⟨w.heap.size,4,none⟩=some (.slice coa m.co.length coc)∧w2.cell? ⟨w.heap.size,5,none⟩=some (.slice daa m.da.length dac)∧w2.cell? ⟨w.heap.size,6,none⟩=some (.int .u64 m.bs)∧w2.cell? ⟨w.heap.size,7,none⟩=some (.slice tla m.tl.length tlc)∧w2.cell? ⟨w.heap.size,8,none⟩=some (.int .u64 m.tb)∧w2.cell? ⟨w.heap.size,9,none⟩=some (.slice dfa m.df.length dfc)∧w2.cell? ⟨w.heap.size,10,none⟩=some (.slice fxa m.fx.length fxc):=⟨HBX0.out.cell 0,HBX0.out.cell 1,HBX0.out.cell 2,HBX0.out.cell 3,HBX0.out.cell 4,HBX0.out.cell 5,HBX0.out.cell 6,HBX0.out.cell 7,HBX0.out.cell 8,HBX0.out.cell 9,HBX0.out.cell 10⟩
 refine wp_seq_k fun K1 hK1=>?_;have HK1:=hZz hK1;clear hK1;go_wp2_with fail;refine HK1.out _ _ ?_;refine HAF.out _ rfl _ rfl rfl rfl ⟨HBE0.out.alloc oZm _,HBX0.out.alloc _,HBR0.out.alloc _,?_,World.ownsRow_nil _ _ _ _⟩;have q:=Blk.new w2 #[.int .i64 m.k,.string m.so,.slice nda m.nd.length ndc,.int .u64 m.en,.slice coa m.co.length coc,.slice daa m.da.length dac,.int .u64 m.bs,.slice tla m.tl.length tlc,.int .u64 m.tb,.slice none 0 0,.slice none 0 0] 55;rw [hws] at q;exact q
end Go.Proofs.YtclgbdfkdbbinaaGreat
namespace Go.Proofs.YtclgbdfkdbbinaaGreat
open Go.RowKit Go.ChangeShapes Go.WideShapes
theorem Df.one_string:Tryz.prog.cellsOf 9=1:=by kernel_rfl
theorem Df.one_int:Tryz.prog.cellsOf 3=1:=by kernel_rfl
theorem Df.wf_int {n:Int} (h:(Lit.int .i64 n).wf=true):-9223372036854775808≤n∧n≤9223372036854775807:=by
 simpa [Lit.wf,IntKind.min,IntKind.max,IntKind.signed,IntKind.bits] using h
theorem Df.one_uint64:Tryz.prog.cellsOf 24=1:=by kernel_rfl
theorem Df.wf_uint64 {n:Int} (h:(Lit.int .u64 n).wf=true):0≤n∧n≤18446744073709551615:=by
 simpa [Lit.wf,IntKind.min,IntKind.max,IntKind.signed,IntKind.bits] using h
theorem Df.one_bool:Tryz.prog.cellsOf 4=1:=by kernel_rfl
theorem Df.many:Tryz.prog.cellsOf 61=4:=by kernel_rfl
theorem Df.split {cs:List Value} (h:cs.length=4):∃c0 c1 c2 c3,cs=[c0,c1,c2,c3]:=by
 rcases cs with _ | ⟨c0,_ | ⟨c1,_ | ⟨c2,_ | ⟨c3,_ | ⟨c4,cs⟩⟩⟩⟩⟩;all_goals first | exact ⟨_,_,_,_,rfl⟩ | (simp at h;try omega)
section
variable {H:Type} {enc:TypeId×Value→H} {w:World} {base:Nat} {held:Bool}
theorem Df.read {fuel:Nat} {cs:List Value} {x:DataW H×List MemPlace} (h:DataW.trod enc Tryz.prog w base (fun _=>true) held fuel 61 cs=some x):∃s:Df,s.Ok w w.heap.size∧cs=s.cells.toList:=by
 obtain ⟨xs,n,-,-,hlen,hxl,hf⟩:=DataW.trod_struct Tryz.underlying61 h;rw [Df.many] at hlen;obtain ⟨c0,c1,c2,c3,rfl⟩:=Df.split hlen;have hx:∀j,j<4→∃y,xs[j]?=some y:=fun j hj=>⟨_,gZg (by rw [hxl];exact hj)⟩
 obtain ⟨y0,e0⟩:=hx 0 dZc;obtain ⟨n0,g0,-,w0⟩:=DataW.trod_string Tryz.underlying9 ((hf 0 _ rfl).trans e0);have k0:List.take (Tryz.prog.cellsOf 9) (List.drop 0 [c0,c1,c2,c3])=[.string n0]:=g0;rw [Df.one_string] at k0;obtain ⟨y1,e1⟩:=hx 1 dZc;obtain ⟨n1,g1,-,w1⟩:=DataW.trod_int Tryz.underlying3 ((hf 1 _ rfl).trans e1);have k1:List.take (Tryz.prog.cellsOf 3) (List.drop 1 [c0,c1,c2,c3])=[.int .i64 n1]:=g1;rw [Df.one_int] at k1;obtain ⟨y2,e2⟩:=hx 2 dZc;obtain ⟨n2,g2,-,w2⟩:=DataW.trod_int Tryz.underlying24 ((hf 2 _ rfl).trans e2);have k2:List.take (Tryz.prog.cellsOf 24) (List.drop 2 [c0,c1,c2,c3])=[.int .u64 n2]:=g2;rw [Df.one_uint64] at k2;obtain ⟨y3,e3⟩:=hx 3 dZc;obtain ⟨n3,g3,-⟩:=DataW.trod_bool Tryz.underlying4 ((hf 3 _ rfl).trans e3);have w3:n3=n3:=rfl;have k3:List.take (Tryz.prog.cellsOf 4) (List.drop 3 [c0,c1,c2,c3])=[.bool n3]:=g3;rw [Df.one_bool] at k3;simp at k0 k1 k2 k3;subst k0 k1 k2 k3;exact ⟨⟨n0,n1,n2,n3⟩,⟨w0,Df.wf_int w1,Df.wf_uint64 w2,w3⟩,rfl⟩
theorem Df.list_of {P:Nat→Df→Prop}:∀(n:Nat),(∀i,i<n→∃s,P i s)→∃L:List Df,L.length=n∧∀i,i<n→P i (L.getD i Df.zero)
 | 0,_=>⟨[],rfl,fun i h=>absurd h oZm⟩
 | n+1,h=>by
   obtain ⟨L,hl,hL⟩:=Df.list_of n (fun i hi=>h i oZm);obtain ⟨s,hs⟩:=h n oZm;refine ⟨L++[s],by simp [hl],fun i hi=>?_⟩;by_cases e:i=n
   ·subst e;rw [gZe,List.getElem?_append_right (by omega)];simpa [hl] using hs
   ·rw [gZe,List.getElem?_append_left oZm,←gZe];exact hL i oZm
def Df.Is (w:World) (a:Option Addr) (len cap:Nat) (L:List Df):Prop:=
 (a=none∧len=0∧cap=0∧L=[])∨
 ∃x,a=some x∧len≤cap∧cap≤maxLen∧L.length=cap∧∀i,i<cap→(L.getD i Df.zero).Ok w w.heap.size∧∀j,j<4→w.cell? (x.add (i*4+j))=(L.getD i Df.zero).cells[j]?
theorem Df.opens {fuel:Nat} {a:Option Addr} {len cap:Nat} {x:DataW H×List MemPlace} (h:DataW.trod enc Tryz.prog w base (fun _=>true) held fuel 44 (Value.slice a len cap).cells.toList=some x):∃L,Df.Is w a len cap L:=by
 rcases Go.Deep.open_slice Tryz.underlying44 h with ⟨hcs,_⟩ | ⟨a',l,c,m,n,D,Pl,hcs,_,hl,hm,hmm,_,hi⟩
 ·simp [Value.cells] at hcs
  obtain ⟨rfl,rfl,rfl⟩:=hcs;exact ⟨[],.inl ⟨rfl,rfl,rfl,rfl⟩⟩
 ·simp [Value.cells] at hcs
  obtain ⟨rfl,rfl,rfl⟩:=hcs;have hmc:m=cap:=by simpa using hmm
  subst hmc;obtain ⟨L,hL,hLs⟩:=Df.list_of (P:=fun i s=>s.Ok w w.heap.size∧∀j,j<4→w.cell? (a'.add (i*4+j))=s.cells[j]?) m (fun i him=>by
   obtain ⟨cs',hc,ht⟩:=hi i him;obtain ⟨s,hok,rfl⟩:=Df.read ht;obtain ⟨_,_,hat⟩:=World.cells?_some hc;rw [Df.many] at hat;refine ⟨s,hok,fun j hj=>?_⟩;rw [←Go.Deep.add_add,hat j hj];simp)
  exact ⟨L,.inr ⟨a',rfl,hl,hm,hL,hLs⟩⟩
end
theorem Df.Is.sl {w:World} {a:Option Addr} {len cap:Nat} {L:List Df} (h:Df.Is w a len cap L) :
 Df.Sl w w.heap.size a len (L.take len)∧len≤cap∧(cap:Int)≤9223372036854775807:=by
 rcases h with ⟨rfl,rfl,rfl,rfl⟩ | ⟨⟨b,off,spot⟩,rfl,hl,hm,hL,hc⟩
 ·exact ⟨Df.Sl.empty _ _ _,lZr _,by omega⟩
 ·have hm':(cap:Int)≤9223372036854775807:=by unfold maxLen at hm;omega
  refine ⟨⟨by rw [List.length_take];omega,fun s hs=>?_,fun h0=>?_⟩,hl,hm'⟩
  ·obtain ⟨i,hi,rfl⟩:=List.getElem_of_mem (List.mem_of_mem_take hs);have:=(hc i oZm).1
   rwa [gZe,gZg hi] at this
  ·have h1:w.cell? ((⟨b,off,spot⟩:Addr).add 0)=some (.string (L.getD 0 Df.zero).nm):=(hc 0 oZm).2 0 dZc;have hs:spot=none:=by
    have h2:w.cell? ⟨b,off,spot⟩=some (.string (L.getD 0 Df.zero).nm):=by simpa [Addr.add] using h1
    exact World.cell?_spot h2
   subst hs;have hlt:b<w.heap.size:=by
    have h2:w.cell? ⟨b,off,none⟩=some (.string (L.getD 0 Df.zero).nm):=by simpa [Addr.add] using h1
    exact eJ h2
   refine ⟨b,off,rfl,hlt,fun i hi=>?_⟩;have h2:=(hc i oZm).2;simp only [cD] at h2;rw [gZe,List.getElem?_take_of_lt hi,←gZe];exact ⟨h2 0 dZc,h2 1 dZc,h2 2 dZc,h2 3 dZc⟩
end Go.Proofs.YtclgbdfkdbbinaaGreat
