/-
  What is proved here: words and contracts, a part of those that the statement rests on (P11).
  Conditions: none but that the arguments are values of their types.
-/
import Derived.Test.YtclgbdfkdbbinaaGreatP9
import Derived.Test.YtclgbdfkdbbinaaGreatP4
import Derived.Test.YtclgbdfkdbbinaaGreatP10
import Derived.Test.YtclgbdfkdbbinaaGreatP2
import Derived.Test.YtclgbdfkdbbinaaGreatP6
import Derived.Deep.Cut
import Derived.Deep.DeepCutAuto
set_option linter.unusedVariables false
set_option linter.unusedSimpArgs false
set_option maxRecDepth 100000
set_option maxHeartbeats 12800000
namespace Go.Proofs.YtclgbdfkdbbinaaGreat
open Go.RowKit
structure PSt (w wr:World) (x:Iv):Prop where
 box:Blk wr (w.heap.size+1) x.cells 38
 res:Blk wr w.heap.size iv0.cells 38
 bel:Below w.heap.size w wr
theorem PSt.later {w wr w':World} {x:Iv} (h:PSt w wr x) (hb:Below wr.heap.size wr w'):PSt w w' x:=⟨h.box.later hb,h.res.later hb,h.bel.trans (hb.mono h.bel.size)⟩
theorem PSt.set {w wr:World} {x x':Iv} (h:PSt w wr x) (i:Nat) (v:Value) (he:x.cells.setIfInBounds i v=x'.cells):PSt w (wr.setCell ⟨w.heap.size+1,i,none⟩ v) x':=
 ⟨by have:=h.box.set i v;rw [he] at this;exact this,h.res.setOther (a:=⟨w.heap.size+1,i,none⟩) (by simp) _,h.bel.setCell (Nat.le_succ _) _⟩
def Parse0 (B:Nat) (Z:Int×Im) (w:World) (e:Ending) (w':World):Prop:=
 (∃x:Iv,e=.returned (.tuple #[x.val,.int .i64 Z.1])∧(Z.1=0→∀g wf,B≤g→g<w.heap.size→Kp g w' wf→x.Is wf wf.heap.size Z.2))∧Below w.heap.size w w'
theorem Bys.kpB {g B:Nat} {W w:World} (h:Kp g W w) {a:Option Addr} {len:Nat} {zs:List Int} (hz:Bys W B a len zs) (hB:B≤g) (hW:B≤W.heap.size):Bys w B a len zs:=by
 refine ⟨hz.1,hz.2.1,fun hl=>?_⟩;obtain ⟨b,off,e,hlt,hc⟩:=hz.2.2 hl;exact ⟨b,off,e,hlt,fun i hi=>by rw [h.cell (by omega) (by omega)];exact hc i hi⟩
theorem Parse0.err {B:Nat} {Z:Int×Im} {w w':World} {E:Int} {r:Ending} (x:Iv) (hZ:Z=(E,im0)) (hE:E≠0) (hr:r=.returned (.tuple #[x.val,.int .i64 E])) (hb:Below w.heap.size w w'):Parse0 B Z w r w':=by
 subst hZ;exact ⟨⟨x,hr,fun h=>absurd h hE⟩,hb⟩
theorem Parse0.held {B:Nat} {Z:Int×Im} {mm:Im} {he:Int} {w w':World} {r:Ending} {x:Iv} (hZ:Z=if he≠0 then (he,im0) else (0,mm)) (hr:r=.returned (.tuple #[x.val,.int .i64 he])) (his:∀g wf,B≤g→g<w.heap.size→Kp g w' wf→x.Is wf wf.heap.size mm) (hb:Below w.heap.size w w'):Parse0 B Z w r w':=by
 by_cases h:he=0
 ·rw [if_neg (by simpa using h)] at hZ;subst hZ;exact ⟨⟨x,by rw [hr,h],fun _=>his⟩,hb⟩
 ·rw [if_pos h] at hZ;subst hZ;exact ⟨⟨x,hr,fun e=>absurd e h⟩,hb⟩
theorem head_cases (zs:List Int):(zs.length<64∧k3_getV zs=.tuple #[headV 0 0 0 0,.int .i64 10])∨(64≤zs.length∧isHead zs=false∧k3_getV zs=.tuple #[headV 0 0 0 0,.int .i64 11])∨(64≤zs.length∧isHead zs=true∧k3_getV zs=.tuple #[headV (kOf zs) (eOf zs) (sOf zs) (cOf zs),.int .i64 0]):=by
 unfold k3_getV;by_cases h:zs.length<64
 ·exact .inl ⟨h,by rw [if_pos h]⟩
 ·rw [if_neg h];cases hv:isHead zs with
  | false=>exact .inr (.inl ⟨by omega,rfl,by simp⟩)
  | true=>exact .inr (.inr ⟨by omega,rfl,by simp⟩)
theorem imaI_none {zs:List Int} {k e s c:Int} {L:List Sg} (h:L.find? (kindB 2)=none):imaI zs k e s c L=if heldI L [] []≠0 then (heldI L [] [],im0) else (0,⟨k,e,s,c,L,.empty,[],[],[],[],zs⟩):=by
 unfold imaI;rw [h];rfl
theorem imaI_some {zs:List Int} {k e s c:Int} {L:List Sg} {d:Sg} (h:L.find? (kindB 2)=some d):imaI zs k e s c L=if (namedI L zs d).1≠0 then ((namedI L zs d).1,im0) else if heldI L (namedI L zs d).2.sy (namedI L zs d).2.rl≠0 then (heldI L (namedI L zs d).2.sy (namedI L zs d).2.rl,im0) else (0,⟨k,e,s,c,L,(namedI L zs d).2.so,(namedI L zs d).2.nd,(namedI L zs d).2.nm,(namedI L zs d).2.sy,(namedI L zs d).2.rl,zs⟩):=by
 unfold imaI;rw [h]
theorem rparse0_any (B:Nat) (a:Option Addr) (len cap:Nat) (zs:List Int) (w:World) (hb:Bys w B a len zs) (hB:B≤w.heap.size) (hcap:len≤cap) (hcm:(cap:Int)≤9223372036854775807) (hl:len≤140737488355328) :
 Calls Tryz.prog 25 #[.slice a len cap] w (Parse0 B (parseI zs) w):=by
 obtain ⟨Z,hZ⟩:∃Z,parseI zs=Z:=⟨_,rfl⟩
 rw [hZ];have HZ:=Lib.hid hZ;have HBY:=Lib.hid hb;have hzl:=hb.1;have hli:(len:Int)≤140737488355328:=by omega
 have HB0:Hid (∀o o',Below w.heap.size w ((w.alloc o).alloc o')):=Lib.hid (fun o o'=>((Below.refl _ _).alloc (Nat.le_refl _) o).alloc (by simp) o');have HS0:Hid (PSt w ((w.alloc (.cells #[.int .i64 0,.int .u64 0,.int .u64 0,.int .i64 0,.slice none 0 0,.string .empty,.slice none 0 0,.slice none 0 0,.slice none 0 0,.slice none 0 0,.slice none 0 0] 38)).alloc (.cells #[.int .i64 0,.int .u64 0,.int .u64 0,.int .i64 0,.slice none 0 0,.string .empty,.slice none 0 0,.slice none 0 0,.slice none 0 0,.slice none 0 0,.slice none 0 0] 38)) iv0):=Lib.hid (by
  refine ⟨?_,(Blk.new w _ _).alloc _,HB0.out _ _⟩;have:=Blk.new (w.alloc (.cells #[.int .i64 0,.int .u64 0,.int .u64 0,.int .i64 0,.slice none 0 0,.string .empty,.slice none 0 0,.slice none 0 0,.slice none 0 0,.slice none 0 0,.slice none 0 0] 38)) iv0.cells 38;rw [World.size_alloc] at this;exact this)
 clear hb hZ;by_cases h1:65536<len
 ·have HZE:Hid (Z=(13,im0)):=Lib.hid (by rw [←HZ.out];unfold parseI;rw [if_pos (by omega)]);have h1i:(65536:Int)<len:=by omega
  go_enter Tryz.func25,Tryz.ntmps25
  go_wp2;refine bodyPost_ret (v:=.tuple #[.agg #[.int .i64 0,.int .u64 0,.int .u64 0,.int .i64 0,.slice none 0 0,.string .empty,.slice none 0 0,.slice none 0 0,.slice none 0 0,.slice none 0 0,.slice none 0 0],.int .i64 13]) (by simp [results,Tryz.results25,go_sem];rfl) rfl (Parse0.err iv0 HZE.out (by decide) rfl ?_);exact HB0.out _ _
 ·have h1i:¬(65536:Int)<len:=by omega
  have H1:=Lib.hid (show ¬65536<zs.length by omega);have HHG:=Lib.hid (fun w1 (hw:Below w.heap.size w w1)=>rhget_any B a len cap zs w1 (HBY.out.below (hw.mono hB)) (Nat.le_trans hB hw.size) hcap hcm);rcases head_cases zs with ⟨hh,hg⟩ | ⟨hh,hi,hg⟩ | ⟨hh,hi,hg⟩
  ·have HZE:Hid (Z=(10,im0)):=Lib.hid (by rw [←HZ.out];unfold parseI;rw [if_neg H1.out,if_pos hh]);rw [hg] at HHG;unfold headV at HHG;clear hg hh;go_enter Tryz.func25,Tryz.ntmps25
   go_wp2_with fail;refine (HHG.out _ (HB0.out _ _)).mono ?_;rintro r w1 ⟨rfl,hb1⟩;have HS1:=Lib.hid ((HS0.out.later hb1).later ((Below.refl _ _).alloc (Nat.le_refl _) (.cells #[.int .i64 0,.int .u64 0,.int .u64 0,.int .i64 0] 36)));clear hb1;have HSE:=HS1.out;obtain ⟨q0,q1,q2,q3,q4,q5,q6,q7,q8,q9,q10⟩:=Iv.cs HSE.res;obtain ⟨f0,f1,f2,f3,f4,f5,f6,f7,f8,f9,f10⟩:=Iv.fs HSE.res;obtain ⟨x0,x1,x2,x3,x4,x5,x6,x7,x8,x9,x10⟩:=Iv.cs HSE.box;have HBE:=Lib.hid HSE.bel;clear HSE;go_wp2;refine bodyPost_ret (v:=.tuple #[.agg #[.int .i64 0,.int .u64 0,.int .u64 0,.int .i64 0,.slice none 0 0,.string .empty,.slice none 0 0,.slice none 0 0,.slice none 0 0,.slice none 0 0,.slice none 0 0],.int .i64 10]) (by simp [results,Tryz.results25,go_sem,q0,q1,q2,q3,q4,q5,q6,q7,q8,q9,q10,iv0,Sh.zero]) rfl (Parse0.err iv0 HZE.out (by decide) rfl ?_);exact below_eleven HBE.out (Nat.le_refl _) _ _ _ _ _ _ _ _ _ _ _
  ·have HZE:Hid (Z=(11,im0)):=Lib.hid (by rw [←HZ.out];unfold parseI;rw [if_neg H1.out,if_neg (by omega),if_pos hi]);rw [hg] at HHG;unfold headV at HHG;clear hg hh;go_enter Tryz.func25,Tryz.ntmps25
   go_wp2_with fail;refine (HHG.out _ (HB0.out _ _)).mono ?_;rintro r w1 ⟨rfl,hb1⟩;have HS1:=Lib.hid ((HS0.out.later hb1).later ((Below.refl _ _).alloc (Nat.le_refl _) (.cells #[.int .i64 0,.int .u64 0,.int .u64 0,.int .i64 0] 36)));clear hb1;have HSE:=HS1.out;obtain ⟨q0,q1,q2,q3,q4,q5,q6,q7,q8,q9,q10⟩:=Iv.cs HSE.res;obtain ⟨f0,f1,f2,f3,f4,f5,f6,f7,f8,f9,f10⟩:=Iv.fs HSE.res;obtain ⟨x0,x1,x2,x3,x4,x5,x6,x7,x8,x9,x10⟩:=Iv.cs HSE.box;have HBE:=Lib.hid HSE.bel;clear HSE;go_wp2;refine bodyPost_ret (v:=.tuple #[.agg #[.int .i64 0,.int .u64 0,.int .u64 0,.int .i64 0,.slice none 0 0,.string .empty,.slice none 0 0,.slice none 0 0,.slice none 0 0,.slice none 0 0,.slice none 0 0],.int .i64 11]) (by simp [results,Tryz.results25,go_sem,q0,q1,q2,q3,q4,q5,q6,q7,q8,q9,q10,iv0,Sh.zero]) rfl (Parse0.err iv0 HZE.out (by decide) rfl ?_);exact below_eleven HBE.out (Nat.le_refl _) _ _ _ _ _ _ _ _ _ _ _
  ·have HZ2:Hid (Z=if kOf zs=4 then (11,im0)
    else if (k4_tabR zs (sOf zs) (cOf zs)).1≠0 then ((k4_tabR zs (sOf zs) (cOf zs)).1,im0)
    else if checkS (k4_tabR zs (sOf zs) (cOf zs)).2 zs.length≠0 then (checkS (k4_tabR zs (sOf zs) (cOf zs)).2 zs.length,im0)
    else if (k4_tabR zs (sOf zs) (cOf zs)).2.find? (kindB 1)=none then (11,im0)
    else imaI zs (kOf zs) (eOf zs) (sOf zs) (cOf zs) (k4_tabR zs (sOf zs) (cOf zs)).2):=Lib.hid (by rw [←HZ.out];unfold parseI;rw [if_neg H1.out,if_neg (by omega),if_neg (by rw [hi];decide)])
   obtain ⟨k0,k1⟩:=kOf_bd HBY.out.2.1 hh;obtain ⟨s0,s1⟩:=sOf_bd HBY.out.2.1 hh;obtain ⟨e0,e1⟩:=eOf_bd HBY.out.2.1 hh;obtain ⟨c0,c1⟩:=cOf_bd HBY.out.2.1 hh;have HTB:=Lib.hid (fun w1 (hw:Below w.heap.size w w1)=>rtable_any B a len cap zs (sOf zs) (cOf zs) w1 (HBY.out.below (hw.mono hB)) (Nat.le_trans hB hw.size) hl s0 s1);have HTO:=Lib.hid (k4_tabR_ok (n:=cOf zs) HBY.out.2.1 s0);rw [hg] at HHG;unfold headV at HHG;generalize k4_tabR zs (sOf zs) (cOf zs)=TB at HZ2 HTB HTO;generalize kOf zs=k at *;generalize sOf zs=s at *;generalize eOf zs=e at *;generalize cOf zs=c at *;obtain ⟨te,L⟩:=TB;simp only at HZ2 HTB HTO;clear hg hi HZ H1;go_enter Tryz.func25,Tryz.ntmps25
   go_wp2_with fail;refine (HHG.out _ (HB0.out _ _)).mono ?_;rintro r w1 ⟨rfl,hb1⟩;have HS1:=Lib.hid (HS0.out.later hb1);have HS2:=Lib.hid (HS1.out.later ((Below.refl _ _).alloc (Nat.le_refl _) (.cells #[.int .i64 k,.int .u64 e,.int .u64 s,.int .i64 c] 36)));have HHB:=Lib.hid (Blk.new w1 #[.int .i64 k,.int .u64 e,.int .u64 s,.int .i64 c] 36);clear hb1 HHG HS0;by_cases hk4:k=4
   ·have HZE:Hid (Z=(11,im0)):=Lib.hid (by rw [HZ2.out,if_pos hk4]);have hk4b:(k==4)=true:=by simpa using hk4
    clear hk4;have HSE:=HS2.out;obtain ⟨q0,q1,q2,q3,q4,q5,q6,q7,q8,q9,q10⟩:=Iv.cs HSE.res;obtain ⟨f0,f1,f2,f3,f4,f5,f6,f7,f8,f9,f10⟩:=Iv.fs HSE.res;obtain ⟨x0,x1,x2,x3,x4,x5,x6,x7,x8,x9,x10⟩:=Iv.cs HSE.box;have HBE:=Lib.hid HSE.bel;clear HSE;go_wp2;refine bodyPost_ret (v:=.tuple #[.agg #[.int .i64 0,.int .u64 0,.int .u64 0,.int .i64 0,.slice none 0 0,.string .empty,.slice none 0 0,.slice none 0 0,.slice none 0 0,.slice none 0 0,.slice none 0 0],.int .i64 11]) (by simp [results,Tryz.results25,go_sem,q0,q1,q2,q3,q4,q5,q6,q7,q8,q9,q10,iv0,Sh.zero]) rfl (Parse0.err iv0 HZE.out (by decide) rfl ?_);exact below_eleven HBE.out (Nat.le_refl _) _ _ _ _ _ _ _ _ _ _ _
   ·have hk4b:(k==4)=false:=by simpa using hk4
    have HZ3:Hid (Z=if te≠0 then (te,im0)
     else if checkS L zs.length≠0 then (checkS L zs.length,im0)
     else if L.find? (kindB 1)=none then (11,im0)
     else imaI zs k e s c L):=Lib.hid (by rw [HZ2.out,if_neg hk4])
    clear hk4 HZ2;go_wp2_with fail;refine (HTB.out _ HS2.out.bel).mono ?_;rintro r w2 ⟨⟨u,rfl,ho⟩,hb2⟩;obtain ⟨⟨la,ln,lc⟩,hoks,hns,rfl⟩:=own_sh ho;simp only at hns;subst hns;have HS3:=Lib.hid (HS2.out.later hb2);have hbase:w.heap.size+1<(w1.alloc (.cells #[.int .i64 k,.int .u64 e,.int .u64 s,.int .i64 c] 36)).heap.size:=by have:=HS1.out.box.lt;simp only [World.size_alloc];omega
    have HO:=Lib.hid ho;have HHB2:=Lib.hid (HHB.out.later hb2);have HSG:=Lib.hid (Sgs.own HTO.out.1 ho);have hL64:L.length≤64:=HTO.out.2;have hlc1:L.length≤lc:=hoks.le;have hlc2:(lc:Int)≤9223372036854775807:=hoks.max;clear ho hb2 hoks HTB HS2 HS1 HHB;by_cases hte:te=0
    ·subst hte;have HZ4:Hid (Z=if checkS L zs.length≠0 then (checkS L zs.length,im0)
      else if L.find? (kindB 1)=none then (11,im0)
      else imaI zs k e s c L):=Lib.hid (by rw [HZ3.out,if_neg (by simp)])
     rw [hzl] at HZ4;have HCK:=Lib.hid (rcheck1_any _ la L.length lc L len w2 HSG.out (Nat.le_refl _) hlc1 hlc2 (by omega) (by omega));generalize checkS L len=ck at HCK HZ4;clear HZ3;go_wp2_with fail;refine HCK.out.mono ?_;rintro r w3 ⟨rfl,hb3⟩;have HS4:=Lib.hid (HS3.out.later hb3);have HSG4:=Lib.hid ((HSG.out.below hb3).more hb3.size);have HHB4:=Lib.hid (HHB2.out.later hb3);have HO4:=Lib.hid (own_kp (g:=w.heap.size+1) (Kp.below hb3) HO.out hbase);clear hb3 HCK HS3 HHB2;by_cases hck:ck=0
     ·subst hck;have HZ5:Hid (Z=if L.find? (kindB 1)=none then (11,im0) else imaI zs k e s c L):=Lib.hid (by rw [HZ4.out,if_neg (by simp)]);have HF1:=Lib.hid (rfind_any _ la L.length lc L 1 w3 HSG4.out (Nat.le_refl _) (by omega));clear HZ4;go_wp2_with fail;refine HF1.out.mono ?_;rintro r w4 ⟨hf,rfl⟩;rcases hf with ⟨i1,hi1,rfl,hfi⟩ | ⟨rfl,hfn⟩
      ·have HZ6:Hid (Z=imaI zs k e s c L):=Lib.hid (by rw [HZ5.out,if_neg (by rw [hfi];simp)]);have hi1n:¬(i1:Int)<0:=by omega
       clear hfi HZ5 HF1;have HX0:=HS4.out.box;obtain ⟨x0,x1,x2,x3,x4,x5,x6,x7,x8,x9,x10⟩:=Iv.cs HX0;obtain ⟨f0,f1,f2,f3,f4,f5,f6,f7,f8,f9,f10⟩:=Iv.fs HX0;obtain ⟨g0,g1,g2,g3⟩:=HHB4.out.c4;have hs0:=HS4.out.set 0 (.int .i64 k) (x':=⟨k,0,0,0,Sh.zero,.empty,Sh.zero,Sh.zero,Sh.zero,Sh.zero,Sh.zero⟩) rfl;have hs1:=hs0.set 1 (.int .u64 e) (x':=⟨k,e,0,0,Sh.zero,.empty,Sh.zero,Sh.zero,Sh.zero,Sh.zero,Sh.zero⟩) rfl;have hs2:=hs1.set 2 (.int .u64 s) (x':=⟨k,e,s,0,Sh.zero,.empty,Sh.zero,Sh.zero,Sh.zero,Sh.zero,Sh.zero⟩) rfl;have hs3:=hs2.set 3 (.int .i64 c) (x':=⟨k,e,s,c,Sh.zero,.empty,Sh.zero,Sh.zero,Sh.zero,Sh.zero,Sh.zero⟩) rfl;have hs4:=hs3.set 4 (.slice la L.length lc) (x':=⟨k,e,s,c,⟨la,L.length,lc⟩,.empty,Sh.zero,Sh.zero,Sh.zero,Sh.zero,Sh.zero⟩) rfl;have hs10:=hs4.set 10 (.slice a len cap) (x':=⟨k,e,s,c,⟨la,L.length,lc⟩,.empty,Sh.zero,Sh.zero,Sh.zero,Sh.zero,⟨a,len,cap⟩⟩) rfl;have HK10:=Lib.hid ((((((((Kp.refl (w.heap.size+1) w3).set 0 (.int .i64 k)).set 1 (.int .u64 e)).set 2 (.int .u64 s)).set 3 (.int .i64 c)).set 4 (.slice la L.length lc)).set 10 (.slice a len cap)));have HS10:=Lib.hid hs10;have HSGK:Hid (∀w',Kp (w.heap.size+1) w3 w'→Sgs w' w'.heap.size la L.length L):=Lib.hid (fun w' hk=>Sgs.own HTO.out.1 (own_kp hk HO4.out hbase));obtain ⟨W,hW⟩:∃W,((((((w3.setCell ⟨w.heap.size+1,0,none⟩ (.int .i64 k)).setCell ⟨w.heap.size+1,1,none⟩ (.int .u64 e)).setCell ⟨w.heap.size+1,2,none⟩ (.int .u64 s)).setCell ⟨w.heap.size+1,3,none⟩ (.int .i64 c)).setCell ⟨w.heap.size+1,4,none⟩ (.slice la L.length lc)).setCell ⟨w.heap.size+1,10,none⟩ (.slice a len cap))=W:=⟨_,rfl⟩
       rw [hW] at HK10 HS10;have HF2:=Lib.hid (rfind_any _ la L.length lc L 2 W (HSGK.out W HK10.out) (Nat.le_refl _) (by omega));have HOW:=Lib.hid (own_kp HK10.out HO4.out hbase);generalize hb1:(w1.alloc (.cells #[.int .i64 k,.int .u64 e,.int .u64 s,.int .i64 c] 36)).heap.size=bb at HOW hbase;clear hs0 hs1 hs2 hs3 hs4 hs10;go_wp2_with fail;try rw [hW]
       refine HF2.out.mono ?_;rintro r w5 ⟨hf2,rfl⟩;clear HF2 x0 x1 x2 x3 x4 x5 x6 x7 x8 x9 x10 f0 f1 f2 f3 f4 f5 f6 f7 f8 f9 f10 g0 g1 g2 g3 HX0 HSGK HSG4 HSG HO HO4 HHB4 HS4 HK10 hW;rcases hf2 with ⟨i2,hi2,rfl,hfi2⟩ | ⟨rfl,hfn2⟩
       ·have HZ7:=Lib.hid (HZ6.out.trans (imaI_some hfi2));clear HZ6 hfi2;have hdi:(i2:Int)<L.length:=by omega
        obtain ⟨sb,soff,hla,hsbl,hsc⟩:=(Sgs.own HTO.out.1 HOW.out).hc (by omega);subst hla;obtain ⟨c0',c1',c2',c3',c4',c5',c6'⟩:=hsc i2 hi2;have hs2:=HTO.out.1 _ (getD_mem (L:=L) hi2);have hws:w.heap.size+1<W.heap.size:=HS10.out.box.lt;have HNA:Hid (∀w',Below W.heap.size W w'→Calls Tryz.prog 64 #[.agg #[.int .i64 k,.int .u64 e,.int .u64 s,.int .i64 c,.slice (some ⟨sb,soff,none⟩) L.length lc,.string .empty,.slice none 0 0,.slice none 0 0,.slice none 0 0,.slice none 0 0,.slice a len cap],(L.getD i2 sg0).val] w' (NamedPost (⟨k,e,s,c,⟨some ⟨sb,soff,none⟩,L.length,lc⟩,.empty,Sh.zero,Sh.zero,Sh.zero,Sh.zero,⟨a,len,cap⟩⟩) (namedI L zs (L.getD i2 sg0)) w')):=Lib.hid (fun w' h=>by
         have h1:Kp (w.heap.size+1) W w':=Kp.below h;refine rnamed_any w'.heap.size (⟨k,e,s,c,⟨some ⟨sb,soff,none⟩,L.length,lc⟩,.empty,Sh.zero,Sh.zero,Sh.zero,Sh.zero,⟨a,len,cap⟩⟩) ⟨k,e,s,c,L,.empty,[],[],[],[],zs⟩ _ w' ?_ (Nat.le_refl _) (by show zs.length≤1000000;omega) hs2 rfl rfl rfl rfl rfl;exact Iv.Is.made (own_kp h1 HOW.out hbase) HTO.out.1 ((HBY.out.below ((HS10.out.bel.trans (h.mono HS10.out.bel.size)).mono hB)).more (Nat.le_trans hB (Nat.le_trans HS10.out.bel.size h.size))) hcap hcm (y:=⟨k,e,s,c,⟨some ⟨sb,soff,none⟩,L.length,lc⟩,.empty,Sh.zero,Sh.zero,Sh.zero,Sh.zero,⟨a,len,cap⟩⟩) (n:=na0) (base:=w.heap.size+2) (Nrows.nil _ _ _ rfl rfl rfl rfl rfl))
        generalize namedI L zs (L.getD i2 sg0)=ZN at HNA HZ7;generalize L.getD i2 sg0=sg at HNA c0' c1' c2' c3' c4' c5' c6';obtain ⟨gt,gf,go,gv,gi,gm,gl⟩:=sg;unfold Sg.val at HNA;simp only at HNA c0' c1' c2' c3' c4' c5' c6';clear hsc hs2;obtain ⟨x0,x1,x2,x3,x4,x5,x6,x7,x8,x9,x10⟩:=Iv.cs HS10.out.box;have HSW:Hid (∀w',Below W.heap.size W w'→PSt w w' (⟨k,e,s,c,⟨some ⟨sb,soff,none⟩,L.length,lc⟩,.empty,Sh.zero,Sh.zero,Sh.zero,Sh.zero,⟨a,len,cap⟩⟩)):=Lib.hid (fun w' h=>HS10.out.later h);go_upto_region 22 with fail
        go_cut [11,12] (fun yb ev wx=>∃(y:Iv) (g:Nat),yb=.pointer (some ⟨g,0,none⟩)∧ev=.int .i64 ZN.1∧Blk wx g y.cells 38∧W.heap.size≤g∧Below W.heap.size W wx∧(ZN.1=0→y=⟨k,e,s,c,⟨some ⟨sb,soff,none⟩,L.length,lc⟩,y.so,y.nd,y.nm,y.sy,y.rl,⟨a,len,cap⟩⟩∧Nrows wx W.heap.size y ZN.2))
        case first=>
         go_region_with (go_at_call 64;refine (HNA.out _ (by first | exact (Below.refl _ _).drew | exact (Below.refl _ _).drew.alloc (Nat.le_refl _) _)).mono ?_;rintro r w7 ⟨⟨⟨yk,ye,ys,yc,⟨yga,ygn,ygc⟩,yso,⟨yna,ynn,ync⟩,⟨yma,ymn,ymc⟩,⟨ysa,ysn,ysc⟩,⟨yra,yrn,yrc⟩,⟨yza,yzn,yzc⟩⟩,rfl,hy⟩,hb7⟩;(try unfold Iv.val);(try simp only);(first | (have zb:Blk w7 W.heap.size #[.int .i64 0,.int .u64 0,.int .u64 0,.int .i64 0,.slice none 0 0,.string .empty,.slice none 0 0,.slice none 0 0,.slice none 0 0,.slice none 0 0,.slice none 0 0] 38:=(Blk.new W.drew _ _).later hb7;obtain ⟨z0,z1,z2,z3,z4,z5,z6,z7,z8,z9,z10⟩:=Iv.cs zb;obtain ⟨g0,g1,g2,g3,g4,g5,g6,g7,g8,g9,g10⟩:=Iv.fs zb;have HZB:=Lib.hid zb;clear zb) | skip);have HY:=Lib.hid hy;have HB7:=Lib.hid hb7;clear hy hb7)
         all_goals (go_wp2_with fail;go_meet)
         all_goals first
          | (have hW7:Below W.heap.size W w7:=(Below.refl _ _).drew.trans HB7.out
             exact ⟨⟨yk,ye,ys,yc,⟨yga,ygn,ygc⟩,yso,⟨yna,ynn,ync⟩,⟨yma,ymn,ymc⟩,⟨ysa,ysn,ysc⟩,⟨yra,yrn,yrc⟩,⟨yza,yzn,yzc⟩⟩,w7.heap.size,rfl,rfl,Blk.new _ _ _,hW7.size,hW7.alloc hW7.size _,fun h=>⟨(HY.out h).1,((HY.out h).2.kp (g:=w.heap.size) (Kp.below ((Below.refl _ _).alloc (Nat.le_refl _) _)) (show w.heap.size<W.heap.size by omega)).base (Nat.le_refl _)⟩⟩)
          | (have hW7:Below W.heap.size W w7:=((Below.refl W.heap.size W).drew.alloc (Nat.le_refl _) _).trans (HB7.out.mono (by simp))
             exact ⟨⟨yk,ye,ys,yc,⟨yga,ygn,ygc⟩,yso,⟨yna,ynn,ync⟩,⟨yma,ymn,ymc⟩,⟨ysa,ysn,ysc⟩,⟨yra,yrn,yrc⟩,⟨yza,yzn,yzc⟩⟩,W.heap.size,rfl,rfl,HZB.out.eleven _ _ _ _ _ _ _ _ _ _ _,Nat.le_refl _,below_eleven hW7 (Nat.le_refl W.heap.size) _ _ _ _ _ _ _ _ _ _ _,fun h=>⟨(HY.out h).1,((HY.out h).2.kp (Kp.eleven w7 W.heap.size _ _ _ _ _ _ _ _ _ _ _) (by simp)).base (by simp)⟩⟩)
        case rest=>
         obtain ⟨y,g,rfl,rfl,hyb,hg,hbx,hy⟩:=hcut;obtain ⟨ne,nr⟩:=ZN;simp only at hy HZ7;have HS5:=Lib.hid (HSW.out wc hbx);have HYB:=Lib.hid hyb;have HBX:=Lib.hid hbx;clear hyb;by_cases hne:ne=0
         ·subst hne;obtain ⟨hye,hnr⟩:=hy rfl;have HZ8:Hid (Z=if heldI L nr.sy nr.rl≠0 then (heldI L nr.sy nr.rl,im0) else (0,⟨k,e,s,c,L,nr.so,nr.nd,nr.nm,nr.sy,nr.rl,zs⟩)):=Lib.hid (by rw [HZ7.out,if_neg (by simp)]);clear HZ7 hy;obtain ⟨yk,ye,ys,yc,yg,yso,yn,ym,yy,yr,yz⟩:=y;simp only [Iv.mk.injEq] at hye;obtain ⟨e1,e2,e3,e4,rfl,-,-,-,-,-,rfl⟩:=hye;obtain rfl:=e1.symm;obtain rfl:=e2.symm;obtain rfl:=e3.symm;obtain rfl:=e4.symm;have HYC:Hid (Blk wc (w.heap.size+1) #[.int .i64 k,.int .u64 e,.int .u64 s,.int .i64 c,.slice (some ⟨sb,soff,none⟩) L.length lc,.string .empty,.slice none 0 0,.slice none 0 0,.slice none 0 0,.slice none 0 0,.slice a len cap] 38):=Lib.hid HS5.out.box;obtain ⟨W2,hW2⟩:∃W2,(((((((((((wc).setCell ⟨w.heap.size+1,0,none⟩ (.int .i64 k)).setCell ⟨w.heap.size+1,1,none⟩ (.int .u64 e)).setCell ⟨w.heap.size+1,2,none⟩ (.int .u64 s)).setCell ⟨w.heap.size+1,3,none⟩ (.int .i64 c)).setCell ⟨w.heap.size+1,4,none⟩ (.slice (some ⟨sb,soff,none⟩) L.length lc)).setCell ⟨w.heap.size+1,5,none⟩ (.string yso)).setCell ⟨w.heap.size+1,6,none⟩ (.slice yn.a yn.n yn.c)).setCell ⟨w.heap.size+1,7,none⟩ (.slice ym.a ym.n ym.c)).setCell ⟨w.heap.size+1,8,none⟩ (.slice yy.a yy.n yy.c)).setCell ⟨w.heap.size+1,9,none⟩ (.slice yr.a yr.n yr.c)).setCell ⟨w.heap.size+1,10,none⟩ (.slice a len cap)=W2:=⟨_,rfl⟩
          have hk2:Kp (w.heap.size+1) wc W2:=by rw [←hW2];exact Kp.eleven wc (w.heap.size+1) (.int .i64 k) (.int .u64 e) (.int .u64 s) (.int .i64 c) (.slice (some ⟨sb,soff,none⟩) L.length lc) (.string yso) (.slice yn.a yn.n yn.c) (.slice ym.a ym.n ym.c) (.slice yy.a yy.n yy.c) (.slice yr.a yr.n yr.c) (.slice a len cap)
          have HSE2:Hid (PSt w W2 (⟨k,e,s,c,⟨some ⟨sb,soff,none⟩,L.length,lc⟩,yso,yn,ym,yy,yr,⟨a,len,cap⟩⟩)):=Lib.hid ⟨by rw [←hW2];exact HYC.out.eleven (.int .i64 k) (.int .u64 e) (.int .u64 s) (.int .i64 c) (.slice (some ⟨sb,soff,none⟩) L.length lc) (.string yso) (.slice yn.a yn.n yn.c) (.slice ym.a ym.n ym.c) (.slice yy.a yy.n yy.c) (.slice yr.a yr.n yr.c) (.slice a len cap),hk2.blks HS5.out.res (by omega),by rw [←hW2];exact below_eleven HS5.out.bel (Nat.le_succ _) (.int .i64 k) (.int .u64 e) (.int .u64 s) (.int .i64 c) (.slice (some ⟨sb,soff,none⟩) L.length lc) (.string yso) (.slice yn.a yn.n yn.c) (.slice ym.a ym.n ym.c) (.slice yy.a yy.n yy.c) (.slice yr.a yr.n yr.c) (.slice a len cap)⟩;have HNR:=Lib.hid (hnr.kp hk2 hws);have HOW2:=Lib.hid (own_kp ((Kp.below (g:=w.heap.size+1) hbx).trans hk2) HOW.out hbase);obtain ⟨y0',y1',y2',y3',y4',y5',y6',y7',y8',y9',y10'⟩:=Iv.cs HYB.out;obtain ⟨p0,p1,p2,p3,p4,p5,p6,p7,p8,p9,p10⟩:=Iv.cs HYC.out;obtain ⟨t0,t1,t2,t3,t4,t5,t6,t7,t8,t9,t10⟩:=Iv.fs HYC.out;clear hk2 hnr hbx;have HBZ:=Lib.hid (HBY.out.below (HSE2.out.bel.mono hB));have HIS:Hid (∀w',Below W2.heap.size W2 w'→Iv.Is w' w'.heap.size (⟨k,e,s,c,⟨some ⟨sb,soff,none⟩,L.length,lc⟩,yso,yn,ym,yy,yr,⟨a,len,cap⟩⟩) ⟨k,e,s,c,L,nr.so,nr.nd,nr.nm,nr.sy,nr.rl,zs⟩):=Lib.hid (fun w' h=>by
           have h1:Kp (w.heap.size+1) W2 w':=Kp.below h;exact Iv.Is.made (own_kp h1 HOW2.out hbase) HTO.out.1 ((HBY.out.below ((HSE2.out.bel.trans (h.mono HSE2.out.bel.size)).mono hB)).more (Nat.le_trans hB (Nat.le_trans HSE2.out.bel.size h.size))) hcap hcm (HNR.out.kp h1 (by omega)))
          have HHE:Hid (∀w',Below W2.heap.size W2 w'→Calls Tryz.prog 65 #[.agg #[.int .i64 k,.int .u64 e,.int .u64 s,.int .i64 c,.slice (some ⟨sb,soff,none⟩) L.length lc,.string yso,.slice yn.a yn.n yn.c,.slice ym.a ym.n ym.c,.slice yy.a yy.n yy.c,.slice yr.a yr.n yr.c,.slice a len cap]] w' fun e w''=>e=.returned (.int .i64 (heldI L nr.sy nr.rl))∧Below w'.heap.size w' w''):=Lib.hid (fun w' h=>rheld_any _ (⟨k,e,s,c,⟨some ⟨sb,soff,none⟩,L.length,lc⟩,yso,yn,ym,yy,yr,⟨a,len,cap⟩⟩) _ w' (HIS.out w' h) (Nat.le_refl _));have HMM:Hid (∀w',Kp w.heap.size W2 w'→Below w.heap.size w w'→∀g wf,B≤g→g<w.heap.size→Kp g w' wf→Iv.Is wf wf.heap.size (⟨k,e,s,c,⟨some ⟨sb,soff,none⟩,L.length,lc⟩,yso,yn,ym,yy,yr,⟨a,len,cap⟩⟩) ⟨k,e,s,c,L,nr.so,nr.nd,nr.nm,nr.sy,nr.rl,zs⟩):=Lib.hid (fun w' h hb g wf hg1 hg2 hk=>
           Iv.Is.made (own_kp hk (own_kp h HOW2.out (by omega)) (by omega)) HTO.out.1 ((Bys.kpB hk (HBY.out.below (hb.mono hB)) hg1 (Nat.le_trans hB hb.size)).more (by have:=hk.size;have:=hb.size;omega)) hcap hcm ((HNR.out.kp h (by omega)).kp hk (by omega)))
          generalize heldI L nr.sy nr.rl=he at HHE HZ8;have HXB:Hid (∀w',Below W2.drew.heap.size W2.drew w'→PSt w w' (⟨k,e,s,c,⟨some ⟨sb,soff,none⟩,L.length,lc⟩,yso,yn,ym,yy,yr,⟨a,len,cap⟩⟩)∧Below W2.heap.size W2 w'):=Lib.hid (fun w' h=>⟨HSE2.out.later ((Below.refl _ _).drew.trans h),(Below.refl _ _).drew.trans h⟩);go_wp2
          (try rw [hW2])
          obtain ⟨x0,x1,x2,x3,x4,x5,x6,x7,x8,x9,x10⟩:=Iv.cs HSE2.out.box;go_region_with (go_at_call 65;refine (HHE.out _ (Below.refl _ _).drew).mono ?_;rintro r w7 ⟨rfl,hb7⟩;obtain ⟨h7,hb8⟩:=HXB.out _ hb7;obtain ⟨y0,y1,y2,y3,y4,y5,y6,y7,y8,y9,y10⟩:=Iv.cs h7.box;obtain ⟨q0,q1,q2,q3,q4,q5,q6,q7,q8,q9,q10⟩:=Iv.cs h7.res;obtain ⟨f0,f1,f2,f3,f4,f5,f6,f7,f8,f9,f10⟩:=Iv.fs h7.res;have HB7:=Lib.hid h7.bel;have HB8:=Lib.hid hb8;clear hb7 hb8 h7)
          all_goals go_wp2
          all_goals refine bodyPost_ret (v:=.tuple #[.agg #[.int .i64 k,.int .u64 e,.int .u64 s,.int .i64 c,.slice (some ⟨sb,soff,none⟩) L.length lc,.string yso,.slice yn.a yn.n yn.c,.slice ym.a ym.n ym.c,.slice yy.a yy.n yy.c,.slice yr.a yr.n yr.c,.slice a len cap],.int .i64 he]) (by simp [results,Tryz.results25,go_sem,q0,q1,q2,q3,q4,q5,q6,q7,q8,q9,q10,iv0,Sh.zero]) rfl ?_
          all_goals have HKX:=Lib.hid ((Kp.below (g:=w.heap.size) HB8.out).trans (Kp.eleven w7 w.heap.size (.int .i64 k) (.int .u64 e) (.int .u64 s) (.int .i64 c) (.slice (some ⟨sb,soff,none⟩) L.length lc) (.string yso) (.slice yn.a yn.n yn.c) (.slice ym.a ym.n ym.c) (.slice yy.a yy.n yy.c) (.slice yr.a yr.n yr.c) (.slice a len cap)))
          all_goals have HBX:=Lib.hid (below_eleven HB7.out (Nat.le_refl _) (.int .i64 k) (.int .u64 e) (.int .u64 s) (.int .i64 c) (.slice (some ⟨sb,soff,none⟩) L.length lc) (.string yso) (.slice yn.a yn.n yn.c) (.slice ym.a ym.n ym.c) (.slice yy.a yy.n yy.c) (.slice yr.a yr.n yr.c) (.slice a len cap))
          all_goals exact Parse0.held HZ8.out rfl (HMM.out _ HKX.out HBX.out) HBX.out
         ·have HZE:Hid (Z=(ne,im0)):=Lib.hid (by rw [HZ7.out,if_pos hne]);have hnb:(ne != 0)=true:=by rw [bne_iff_ne];exact hne
          have HSE:=HS5.out;obtain ⟨q0,q1,q2,q3,q4,q5,q6,q7,q8,q9,q10⟩:=Iv.cs HSE.res;obtain ⟨f0,f1,f2,f3,f4,f5,f6,f7,f8,f9,f10⟩:=Iv.fs HSE.res;obtain ⟨x0,x1,x2,x3,x4,x5,x6,x7,x8,x9,x10⟩:=Iv.cs HSE.box;have HBE:=Lib.hid HSE.bel;clear HSE;go_wp2;refine bodyPost_ret (v:=.tuple #[.agg #[.int .i64 k,.int .u64 e,.int .u64 s,.int .i64 c,.slice (some ⟨sb,soff,none⟩) L.length lc,.string .empty,.slice none 0 0,.slice none 0 0,.slice none 0 0,.slice none 0 0,.slice a len cap],.int .i64 ne]) (by simp [results,Tryz.results25,go_sem,q0,q1,q2,q3,q4,q5,q6,q7,q8,q9,q10,iv0,Sh.zero]) rfl (Parse0.err ⟨k,e,s,c,⟨some ⟨sb,soff,none⟩,L.length,lc⟩,.empty,Sh.zero,Sh.zero,Sh.zero,Sh.zero,⟨a,len,cap⟩⟩ HZE.out hne rfl ?_);exact below_eleven HBE.out (Nat.le_refl _) _ _ _ _ _ _ _ _ _ _ _
       ·have HZ7:Hid (Z=if heldI L na0.sy na0.rl≠0 then (heldI L na0.sy na0.rl,im0) else (0,⟨k,e,s,c,L,na0.so,na0.nd,na0.nm,na0.sy,na0.rl,zs⟩)):=Lib.hid (HZ6.out.trans (imaI_none hfn2));clear HZ6 hfn2;have HNR:Hid (Nrows W (w.heap.size+2) (⟨k,e,s,c,⟨la,L.length,lc⟩,.empty,Sh.zero,Sh.zero,Sh.zero,Sh.zero,⟨a,len,cap⟩⟩) na0):=Lib.hid (Nrows.nil _ _ _ rfl rfl rfl rfl rfl);have HBZ:=Lib.hid (HBY.out.below (HS10.out.bel.mono hB));have HIS:Hid (∀w',Below W.heap.size W w'→Iv.Is w' w'.heap.size (⟨k,e,s,c,⟨la,L.length,lc⟩,.empty,Sh.zero,Sh.zero,Sh.zero,Sh.zero,⟨a,len,cap⟩⟩) ⟨k,e,s,c,L,na0.so,na0.nd,na0.nm,na0.sy,na0.rl,zs⟩):=Lib.hid (fun w' h=>by
         have h1:Kp (w.heap.size+1) W w':=Kp.below h;exact Iv.Is.made (own_kp h1 HOW.out hbase) HTO.out.1 ((HBY.out.below ((HS10.out.bel.trans (h.mono HS10.out.bel.size)).mono hB)).more (Nat.le_trans hB (Nat.le_trans HS10.out.bel.size h.size))) hcap hcm (HNR.out.kp h1 (by omega)))
        have HHE:Hid (∀w',Below W.heap.size W w'→Calls Tryz.prog 65 #[.agg #[.int .i64 k,.int .u64 e,.int .u64 s,.int .i64 c,.slice la L.length lc,.string .empty,.slice none 0 0,.slice none 0 0,.slice none 0 0,.slice none 0 0,.slice a len cap]] w' fun e w''=>e=.returned (.int .i64 (heldI L na0.sy na0.rl))∧Below w'.heap.size w' w''):=Lib.hid (fun w' h=>rheld_any _ (⟨k,e,s,c,⟨la,L.length,lc⟩,.empty,Sh.zero,Sh.zero,Sh.zero,Sh.zero,⟨a,len,cap⟩⟩) _ w' (HIS.out w' h) (Nat.le_refl _));have HMM:Hid (∀w',Kp w.heap.size W w'→Below w.heap.size w w'→∀g wf,B≤g→g<w.heap.size→Kp g w' wf→Iv.Is wf wf.heap.size (⟨k,e,s,c,⟨la,L.length,lc⟩,.empty,Sh.zero,Sh.zero,Sh.zero,Sh.zero,⟨a,len,cap⟩⟩) ⟨k,e,s,c,L,na0.so,na0.nd,na0.nm,na0.sy,na0.rl,zs⟩):=Lib.hid (fun w' h hb g wf hg1 hg2 hk=>
         Iv.Is.made (own_kp hk (own_kp h HOW.out (by omega)) (by omega)) HTO.out.1 ((Bys.kpB hk (HBY.out.below (hb.mono hB)) hg1 (Nat.le_trans hB hb.size)).more (by have:=hk.size;have:=hb.size;omega)) hcap hcm ((HNR.out.kp h (by omega)).kp hk (by omega)))
        generalize heldI L na0.sy na0.rl=he at HHE HZ7;have HXB:Hid (∀w',Below W.drew.heap.size W.drew w'→PSt w w' (⟨k,e,s,c,⟨la,L.length,lc⟩,.empty,Sh.zero,Sh.zero,Sh.zero,Sh.zero,⟨a,len,cap⟩⟩)∧Below W.heap.size W w'):=Lib.hid (fun w' h=>⟨HS10.out.later ((Below.refl _ _).drew.trans h),(Below.refl _ _).drew.trans h⟩);go_wp2;obtain ⟨x0,x1,x2,x3,x4,x5,x6,x7,x8,x9,x10⟩:=Iv.cs HS10.out.box;go_region_with (go_at_call 65;refine (HHE.out _ (Below.refl _ _).drew).mono ?_;rintro r w7 ⟨rfl,hb7⟩;obtain ⟨h7,hb8⟩:=HXB.out _ hb7;obtain ⟨y0,y1,y2,y3,y4,y5,y6,y7,y8,y9,y10⟩:=Iv.cs h7.box;obtain ⟨q0,q1,q2,q3,q4,q5,q6,q7,q8,q9,q10⟩:=Iv.cs h7.res;obtain ⟨f0,f1,f2,f3,f4,f5,f6,f7,f8,f9,f10⟩:=Iv.fs h7.res;have HB7:=Lib.hid h7.bel;have HB8:=Lib.hid hb8;clear hb7 hb8 h7)
        all_goals go_wp2
        all_goals refine bodyPost_ret (v:=.tuple #[.agg #[.int .i64 k,.int .u64 e,.int .u64 s,.int .i64 c,.slice la L.length lc,.string .empty,.slice none 0 0,.slice none 0 0,.slice none 0 0,.slice none 0 0,.slice a len cap],.int .i64 he]) (by simp [results,Tryz.results25,go_sem,q0,q1,q2,q3,q4,q5,q6,q7,q8,q9,q10,iv0,Sh.zero]) rfl ?_
        all_goals have HKX:=Lib.hid ((Kp.below (g:=w.heap.size) HB8.out).trans (Kp.eleven w7 w.heap.size (.int .i64 k) (.int .u64 e) (.int .u64 s) (.int .i64 c) (.slice la L.length lc) (.string .empty) (.slice none 0 0) (.slice none 0 0) (.slice none 0 0) (.slice none 0 0) (.slice a len cap)))
        all_goals have HBX:=Lib.hid (below_eleven HB7.out (Nat.le_refl _) (.int .i64 k) (.int .u64 e) (.int .u64 s) (.int .i64 c) (.slice la L.length lc) (.string .empty) (.slice none 0 0) (.slice none 0 0) (.slice none 0 0) (.slice none 0 0) (.slice a len cap))
        all_goals exact Parse0.held HZ7.out rfl (HMM.out _ HKX.out HBX.out) HBX.out
      ·have HZE:Hid (Z=(11,im0)):=Lib.hid (by rw [HZ5.out,if_pos hfn]);clear hfn HZ5 HF1;have HSE:=HS4.out;obtain ⟨q0,q1,q2,q3,q4,q5,q6,q7,q8,q9,q10⟩:=Iv.cs HSE.res;obtain ⟨f0,f1,f2,f3,f4,f5,f6,f7,f8,f9,f10⟩:=Iv.fs HSE.res;obtain ⟨x0,x1,x2,x3,x4,x5,x6,x7,x8,x9,x10⟩:=Iv.cs HSE.box;have HBE:=Lib.hid HSE.bel;clear HSE;go_wp2;refine bodyPost_ret (v:=.tuple #[.agg #[.int .i64 0,.int .u64 0,.int .u64 0,.int .i64 0,.slice none 0 0,.string .empty,.slice none 0 0,.slice none 0 0,.slice none 0 0,.slice none 0 0,.slice none 0 0],.int .i64 11]) (by simp [results,Tryz.results25,go_sem,q0,q1,q2,q3,q4,q5,q6,q7,q8,q9,q10,iv0,Sh.zero]) rfl (Parse0.err iv0 HZE.out (by decide) rfl ?_);exact below_eleven HBE.out (Nat.le_refl _) _ _ _ _ _ _ _ _ _ _ _
     ·have HZE:Hid (Z=(ck,im0)):=Lib.hid (by rw [HZ4.out,if_pos hck]);have hcb:(ck != 0)=true:=by rw [bne_iff_ne];exact hck
      have HSE:=HS4.out;obtain ⟨q0,q1,q2,q3,q4,q5,q6,q7,q8,q9,q10⟩:=Iv.cs HSE.res;obtain ⟨f0,f1,f2,f3,f4,f5,f6,f7,f8,f9,f10⟩:=Iv.fs HSE.res;obtain ⟨x0,x1,x2,x3,x4,x5,x6,x7,x8,x9,x10⟩:=Iv.cs HSE.box;have HBE:=Lib.hid HSE.bel;clear HSE;go_wp2;refine bodyPost_ret (v:=.tuple #[.agg #[.int .i64 0,.int .u64 0,.int .u64 0,.int .i64 0,.slice none 0 0,.string .empty,.slice none 0 0,.slice none 0 0,.slice none 0 0,.slice none 0 0,.slice none 0 0],.int .i64 ck]) (by simp [results,Tryz.results25,go_sem,q0,q1,q2,q3,q4,q5,q6,q7,q8,q9,q10,iv0,Sh.zero]) rfl (Parse0.err iv0 HZE.out hck rfl ?_);exact below_eleven HBE.out (Nat.le_refl _) _ _ _ _ _ _ _ _ _ _ _
    ·have HZE:Hid (Z=(te,im0)):=Lib.hid (by rw [HZ3.out,if_pos hte]);have htb:(te != 0)=true:=by rw [bne_iff_ne];exact hte
     have HSE:=HS3.out;obtain ⟨q0,q1,q2,q3,q4,q5,q6,q7,q8,q9,q10⟩:=Iv.cs HSE.res;obtain ⟨f0,f1,f2,f3,f4,f5,f6,f7,f8,f9,f10⟩:=Iv.fs HSE.res;obtain ⟨x0,x1,x2,x3,x4,x5,x6,x7,x8,x9,x10⟩:=Iv.cs HSE.box;have HBE:=Lib.hid HSE.bel;clear HSE;go_wp2;refine bodyPost_ret (v:=.tuple #[.agg #[.int .i64 0,.int .u64 0,.int .u64 0,.int .i64 0,.slice none 0 0,.string .empty,.slice none 0 0,.slice none 0 0,.slice none 0 0,.slice none 0 0,.slice none 0 0],.int .i64 te]) (by simp [results,Tryz.results25,go_sem,q0,q1,q2,q3,q4,q5,q6,q7,q8,q9,q10,iv0,Sh.zero]) rfl (Parse0.err iv0 HZE.out hte rfl ?_);exact below_eleven HBE.out (Nat.le_refl _) _ _ _ _ _ _ _ _ _ _ _
theorem parseI_err (zs:List Int):(parseI zs).1≠0→(parseI zs).2=im0:=by
 have hi:∀k e s c L,(imaI zs k e s c L).1≠0→(imaI zs k e s c L).2=im0:=by
  intro k e s c L;cases h:L.find? (kindB 2) with
  | none=>
    rw [imaI_none h];split
    ·intro _;rfl
    ·intro h;exact absurd rfl h
  | some d=>
    rw [imaI_some h];split
    ·intro _;rfl
    ·split
     ·intro _;rfl
     ·intro h;exact absurd rfl h
 unfold parseI;repeat' split
 all_goals first
  | (intro _;rfl)
  | exact hi _ _ _ _ _
def ParsePost (Z:Int×Im) (w:World) (e:Ending) (w':World):Prop:=
 (∃x:Iv,e=.returned (.tuple #[x.val,.int .i64 Z.1])∧x.Is w' w'.heap.size Z.2)∧Below w.heap.size w w'
theorem rparse_any (B:Nat) (a:Option Addr) (len cap:Nat) (zs:List Int) (w:World) (hb:Bys w B a len zs) (hB:B≤w.heap.size) (hcap:len≤cap) (hcm:(cap:Int)≤9223372036854775807) (hl:len≤140737488355328) :
 Calls Tryz.prog 11 #[.slice a len cap] w (ParsePost (parseI zs) w):=by
 have HPA:Hid (∀w',Below w.heap.size w w'→Calls Tryz.prog 25 #[.slice a len cap] w' (Parse0 B (parseI zs) w')):=Lib.hid (fun w' h=>rparse0_any B a len cap zs w' (hb.below (h.mono hB)) (Nat.le_trans hB h.size) hcap hcm hl);have HER:=Lib.hid (parseI_err zs);generalize parseI zs=Z at HPA HER;obtain ⟨ze,m⟩:=Z;simp only at HER;have HB0:Hid (∀o,Below w.heap.size w (w.alloc o)):=Lib.hid (fun o=>(Below.refl _ _).alloc (Nat.le_refl _) o);clear hb;by_cases hz:ze=0
 ·subst hz;go_enter Tryz.func11,Tryz.ntmps11
  go_wp2_with fail;refine (HPA.out _ (HB0.out _)).mono ?_;rintro r w1 ⟨⟨x,rfl,hx⟩,hb1⟩;have hx2:=hx rfl;obtain ⟨k,e,s,c,⟨sga,sgn,sgc⟩,so,⟨nda,ndn,ndc⟩,⟨nma,nmn,nmc⟩,⟨sya,syn,syc⟩,⟨rla,rln,rlc⟩,⟨zsa,zsn,zsc⟩⟩:=x;unfold Iv.val;simp only
  have HX:=Lib.hid hx2;have hres:=(Blk.new w iv0.cells 38).later hb1;have hbw:Below w.heap.size w w1:=(HB0.out _).trans (hb1.mono (HB0.out (.cells iv0.cells 38)).size);have hlt:=hres.lt;obtain ⟨q0,q1,q2,q3,q4,q5,q6,q7,q8,q9,q10⟩:=Iv.cs hres;obtain ⟨f0,f1,f2,f3,f4,f5,f6,f7,f8,f9,f10⟩:=Iv.fs hres;have hres1:Blk w1 w.heap.size #[.int .i64 0,.int .u64 0,.int .u64 0,.int .i64 0,.slice none 0 0,.string .empty,.slice none 0 0,.slice none 0 0,.slice none 0 0,.slice none 0 0,.slice none 0 0] 38:=hres;obtain ⟨z0,z1,z2,z3,z4,z5,z6,z7,z8,z9,z10⟩:=Iv.cs ((hres1.eleven (.int .i64 k) (.int .u64 e) (.int .u64 s) (.int .i64 c) (.slice sga sgn sgc) (.string so) (.slice nda ndn ndc) (.slice nma nmn nmc) (.slice sya syn syc) (.slice rla rln rlc) (.slice zsa zsn zsc)).alloc (.cells (#[.int .i64 k,.int .u64 e,.int .u64 s,.int .i64 c,.slice sga sgn sgc,.string so,.slice nda ndn ndc,.slice nma nmn nmc,.slice sya syn syc,.slice rla rln rlc,.slice zsa zsn zsc]) 38));have hbe:=below_eleven hbw (Nat.le_refl _) (.int .i64 k) (.int .u64 e) (.int .u64 s) (.int .i64 c) (.slice sga sgn sgc) (.string so) (.slice nda ndn ndc) (.slice nma nmn nmc) (.slice sya syn syc) (.slice rla rln rlc) (.slice zsa zsn zsc);have HKF:=Lib.hid ((Kp.eleven w1 w.heap.size (.int .i64 k) (.int .u64 e) (.int .u64 s) (.int .i64 c) (.slice sga sgn sgc) (.string so) (.slice nda ndn ndc) (.slice nma nmn nmc) (.slice sya syn syc) (.slice rla rln rlc) (.slice zsa zsn zsc)).trans (Kp.below ((Below.refl _ _).alloc (Nat.le_refl _) (.cells (#[.int .i64 k,.int .u64 e,.int .u64 s,.int .i64 c,.slice sga sgn sgc,.string so,.slice nda ndn ndc,.slice nma nmn nmc,.slice sya syn syc,.slice rla rln rlc,.slice zsa zsn zsc]) 38))));have HBF:=Lib.hid (hbe.alloc hbe.size (.cells (#[.int .i64 k,.int .u64 e,.int .u64 s,.int .i64 c,.slice sga sgn sgc,.string so,.slice nda ndn ndc,.slice nma nmn nmc,.slice sya syn syc,.slice rla rln rlc,.slice zsa zsn zsc]) 38));clear hx hx2 hb1 hres hres1 hbw hbe HPA;go_wp2;refine bodyPost_ret (v:=.tuple #[.agg #[.int .i64 k,.int .u64 e,.int .u64 s,.int .i64 c,.slice sga sgn sgc,.string so,.slice nda ndn ndc,.slice nma nmn nmc,.slice sya syn syc,.slice rla rln rlc,.slice zsa zsn zsc],.int .i64 0]) (by simp [results,Tryz.results11,go_sem,z0,z1,z2,z3,z4,z5,z6,z7,z8,z9,z10]) rfl ?_;refine ⟨⟨⟨k,e,s,c,⟨sga,sgn,sgc⟩,so,⟨nda,ndn,ndc⟩,⟨nma,nmn,nmc⟩,⟨sya,syn,syc⟩,⟨rla,rln,rlc⟩,⟨zsa,zsn,zsc⟩⟩,rfl,?_⟩,HBF.out⟩;exact HX.out w.heap.size _ hB (by simp) HKF.out
 ·have hzb:(ze != 0)=true:=by rw [bne_iff_ne];exact hz
  obtain rfl:=HER.out hz;go_enter Tryz.func11,Tryz.ntmps11
  go_wp2_with fail;refine (HPA.out _ (HB0.out _)).mono ?_;rintro r w1 ⟨⟨x,rfl,-⟩,hb1⟩;obtain ⟨k,e,s,c,⟨sga,sgn,sgc⟩,so,⟨nda,ndn,ndc⟩,⟨nma,nmn,nmc⟩,⟨sya,syn,syc⟩,⟨rla,rln,rlc⟩,⟨zsa,zsn,zsc⟩⟩:=x;unfold Iv.val;simp only
  have hres:=(Blk.new w iv0.cells 38).later hb1;have hbw:Below w.heap.size w w1:=(HB0.out _).trans (hb1.mono (HB0.out (.cells iv0.cells 38)).size);have hlt:=hres.lt;obtain ⟨q0,q1,q2,q3,q4,q5,q6,q7,q8,q9,q10⟩:=Iv.cs hres;obtain ⟨f0,f1,f2,f3,f4,f5,f6,f7,f8,f9,f10⟩:=Iv.fs hres;have hres1:Blk w1 w.heap.size #[.int .i64 0,.int .u64 0,.int .u64 0,.int .i64 0,.slice none 0 0,.string ⟨#[]⟩,.slice none 0 0,.slice none 0 0,.slice none 0 0,.slice none 0 0,.slice none 0 0] 38:=hres;obtain ⟨z0,z1,z2,z3,z4,z5,z6,z7,z8,z9,z10⟩:=Iv.cs ((hres1.eleven (.int .i64 0) (.int .u64 0) (.int .u64 0) (.int .i64 0) (.slice none 0 0) (.string ⟨#[]⟩) (.slice none 0 0) (.slice none 0 0) (.slice none 0 0) (.slice none 0 0) (.slice none 0 0)).alloc (.cells (#[.int .i64 k,.int .u64 e,.int .u64 s,.int .i64 c,.slice sga sgn sgc,.string so,.slice nda ndn ndc,.slice nma nmn nmc,.slice sya syn syc,.slice rla rln rlc,.slice zsa zsn zsc]) 38));have hbe:=below_eleven hbw (Nat.le_refl _) (.int .i64 0) (.int .u64 0) (.int .u64 0) (.int .i64 0) (.slice none 0 0) (.string ⟨#[]⟩) (.slice none 0 0) (.slice none 0 0) (.slice none 0 0) (.slice none 0 0) (.slice none 0 0);have HBF:=Lib.hid (hbe.alloc hbe.size (.cells (#[.int .i64 k,.int .u64 e,.int .u64 s,.int .i64 c,.slice sga sgn sgc,.string so,.slice nda ndn ndc,.slice nma nmn nmc,.slice sya syn syc,.slice rla rln rlc,.slice zsa zsn zsc]) 38));clear hb1 hres hres1 hbw hbe HPA;go_wp2;refine bodyPost_ret (v:=.tuple #[.agg #[.int .i64 0,.int .u64 0,.int .u64 0,.int .i64 0,.slice none 0 0,.string ⟨#[]⟩,.slice none 0 0,.slice none 0 0,.slice none 0 0,.slice none 0 0,.slice none 0 0],.int .i64 ze]) (by simp [results,Tryz.results11,go_sem,z0,z1,z2,z3,z4,z5,z6,z7,z8,z9,z10]) rfl ?_;exact ⟨⟨iv0,rfl,iv0_is _ _⟩,HBF.out⟩
def StepsWord (P:Program) (ops:List Oper) (J:(Nat→Bool)→World→Prop) (n:Nat) (x:List Value) (d:List Deferred) (dsts:List Nat) (R:World→World→Prop) (F:Nat→Value→World→Prop):Nat→List Oper→Prop
 | _,[]=>True
 | i,o :: l=>(∀(L:Nat→Bool) (y:Nat→Value) (w:World),J L w→L i=false→(∀t,t ∉ dsts→y t=x.getD t undef)→(∀j,j∈preds o→L j=true∧(dsts.getD j 0<n→F j (y (dsts.getD j 0)) w))→
  (∀k q,ops[k]?=some q→L k=true→∀j,j∈preds q→L j=true)→(∀k,k<ops.length→L k=false→dsts.getD k 0<n→y (dsts.getD k 0)=x.getD (dsts.getD k 0) undef)→
  StepFact P o ⟨frameOf n y,d⟩ w fun u w'=>R w w'∧(dsts.getD i 0<n→F i u w')∧J (upd L i) w')∧StepsWord P ops J n x d dsts R F (i+1) l
theorem StepsWord.get {P:Program} {ops:List Oper} {J:(Nat→Bool)→World→Prop} {n:Nat} {x:List Value} {d:List Deferred} {dsts:List Nat} {R:World→World→Prop} {F:Nat→Value→World→Prop} :
 ∀{l:List Oper} {k:Nat},StepsWord P ops J n x d dsts R F k l→∀i o,l[i]?=some o→
  ∀(L:Nat→Bool) (y:Nat→Value) (w:World),J L w→L (k+i)=false→(∀t,t ∉ dsts→y t=x.getD t undef)→(∀j,j∈preds o→L j=true∧(dsts.getD j 0<n→F j (y (dsts.getD j 0)) w))→
   (∀k q,ops[k]?=some q→L k=true→∀j,j∈preds q→L j=true)→(∀k,k<ops.length→L k=false→dsts.getD k 0<n→y (dsts.getD k 0)=x.getD (dsts.getD k 0) undef)→
   StepFact P o ⟨frameOf n y,d⟩ w fun u w'=>R w w'∧(dsts.getD (k+i) 0<n→F (k+i) u w')∧J (upd L (k+i)) w'
 | [],_,_,_,_,h=>by simp at h
 | o :: l,k,hs,0,o',h=>by
   simp only [List.getElem?_cons_zero,Option.some.injEq] at h;subst h;exact hs.1
 | o :: l,k,hs,i+1,o',h=>by
   rw [List.getElem?_cons_succ] at h;have:=hs.2.get i o' h
   rwa [show k+1+i=k+(i+1) from by omega] at this
section
variable {P:Program} {Q:Exit→Act→World→Prop}
theorem wpAny_word {l:List Oper} {x:List Value} {d:List Deferred} (dsts:List Nat) (R:World→World→Prop) (F:Nat→Value→World→Prop) (J:(Nat→Bool)→World→Prop)
 (hmono:∀i u w w',F i u w→R w w'→F i u w') (hJ:∀L L' w,(∀i,i<l.length→L i=L' i)→J L w→J L' w)
 (hok:invOk l dsts x.length=true) (hsteps:StepsWord P l J x.length x d dsts R F 0 l)
 (hend:∀(v:Nat→Value) (L:Nat→Bool) (w:World),J L w→(∀i,i<l.length→L i=true)→(∀i,i<l.length→dsts.getD i 0<x.length→F i (v i) w)→Q .normal ⟨(putAll v 0 dsts x).toArray,d⟩ w) :
 ∀(fuel:Nat) (listed:Array Bool) (y:Nat→Value) (w:World),left listed≤fuel→listed.size=l.length→(∀t,t ∉ dsts→y t=x.getD t undef)→
  (∀i,listed[i]?=some true→dsts.getD i 0<x.length→F i (y (dsts.getD i 0)) w)→J (fun i=>listed.getD i false) w→
  (∀k q,l[k]?=some q→listed.getD k false=true→∀j,j∈preds q→listed.getD j false=true)→(∀k,k<l.length→listed.getD k false=false→dsts.getD k 0<x.length→y (dsts.getD k 0)=x.getD (dsts.getD k 0) undef)→wpAny P .any l.toArray Q fuel listed ⟨frameOf x.length y,d⟩ w:=by
 simp only [invOk,Bool.and_eq_true,decide_eq_true_eq,List.all_eq_true,List.mem_range] at hok;obtain ⟨⟨⟨hdl,hnd⟩,hfm⟩,hord⟩:=hok;have fin:∀(listed:Array Bool) (y:Nat→Value) (w:World),listed.size=l.length→(∀t,t ∉ dsts→y t=x.getD t undef)→
  (∀i,listed[i]?=some true→dsts.getD i 0<x.length→F i (y (dsts.getD i 0)) w)→J (fun i=>listed.getD i false) w→(∀i,i<l.length→listed[i]?=some true)→Q .normal ⟨frameOf x.length y,d⟩ w:=by
  intro listed y w hsz hy hF hb hall;have h:=hend (fun i=>y (dsts.getD i 0)) _ w hb (fun i hi=>by rw [Array.getD_eq_getD_getElem?,hall i hi];rfl) (fun i hi hn=>hF i (hall i hi) hn);have e:(putAll (fun i=>y (dsts.getD i 0)) 0 dsts x).toArray=frameOf x.length y:=by
   obtain ⟨h1,h2,h3⟩:=putAll_get' (fun i=>y (dsts.getD i 0)) dsts 0 x hnd;apply Array.ext_getElem?
   intro t;rw [List.getElem?_toArray];by_cases ht:t<x.length
   ·rw [frameOf_get _ _ _ ht];by_cases hm:t∈dsts
    ·obtain ⟨j,hj,hjt⟩:=List.getElem_of_mem hm;have hj':dsts[j]?=some t:=by rw [List.getElem?_eq_getElem hj,hjt]
     have hjd:dsts.getD j 0=t:=by rw [List.getD_eq_getElem?_getD,hj'];rfl
     rw [h2 j t hj' ht,Nat.zero_add];simp only [hjd]
    ·rw [h3 t hm,hy t hm,List.getD_eq_getElem?_getD,List.getElem?_eq_getElem ht];rfl
   ·rw [List.getElem?_eq_none (by omega),Array.getElem?_eq_none (by rw [frameOf_size];omega)]
  rw [e] at h;exact h
 intro fuel;induction fuel with
 | zero=>
   intro listed y w hf hsz hy hF hb hcl hun;have hall:∀i,i<l.length→listed[i]?=some true:=fun i hi=>by
    have:=left_zero listed.toList (by unfold left at hf;omega) i (by rw [Array.length_toList,hsz];exact hi);simpa using this
   refine ⟨?_,fin listed y w hsz hy hF hb hall⟩;apply List.eq_nil_iff_forall_not_mem.2
   intro j hj;obtain ⟨h0,o,ho,_⟩:=mem_ready.1 hj;have hjl:j<l.length:=by
    have:=(Array.getElem?_eq_some_iff.1 ho).1;simpa using this
   rw [Array.getD_eq_getD_getElem?,hall j hjl] at h0;cases h0
 | succ fuel ih=>
   intro listed y w hf hsz hy hF hb hcl hun;refine ⟨fun hr=>?_,fun i hi=>?_⟩
   ·refine fin listed y w hsz hy hF hb ?_;intro i;induction i using Nat.strongRecOn with
    | ind i ihi=>
      intro hi;cases hli:listed[i]? with
      | none=>rw [Array.getElem?_eq_none_iff] at hli;omega
      | some b=>
        cases b with
        | true=>rfl
        | false=>
          exfalso
          have:i∈Region.ready .any l.toArray listed:=by
           refine mem_ready.2 ⟨by rw [Array.getD_eq_getD_getElem?,hli];rfl,l[i],by rw [List.getElem?_toArray,List.getElem?_eq_getElem hi],fun e he hbe=>?_⟩;have h1:=hord i hi;rw [List.getElem?_eq_getElem hi] at h1;have h2:=List.all_eq_true.1 h1 e (by simpa using he);rw [hbe] at h2;have h3:e.on<i:=by simpa using h2
           rw [Array.getD_eq_getD_getElem?,ihi e.on h3 (by omega)];rfl
          rw [hr] at this;cases this
   ·obtain ⟨h0,o,ho,hall⟩:=mem_ready.1 hi;have ho':l[i]?=some o:=by simpa using ho
    have hil:i<l.length:=(List.getElem?_eq_some_iff.1 ho').1;have hli:listed[i]?=some false:=by
     cases hli:listed[i]? with
     | none=>rw [Array.getElem?_eq_none_iff] at hli;omega
     | some b=>rw [Array.getD_eq_getD_getElem?,hli] at h0;rw [show b=false from h0]
    have hst:=hsteps.get i o ho' (fun i=>listed.getD i false) y w hb (by rw [Nat.zero_add];show listed.getD i false=false;rw [Array.getD_eq_getD_getElem?,hli];rfl) hy (fun j hj=>by
     unfold preds at hj;obtain ⟨e,he,rfl⟩:=List.mem_map.1 hj;obtain ⟨he1,he2⟩:=List.mem_filter.1 he;have hl:=hall e (by simpa using he1) he2;refine ⟨hl,hF e.on ?_⟩;cases hle:listed[e.on]? with
     | none=>rw [Array.getD_eq_getD_getElem?,hle] at hl;cases hl
     | some b=>rw [Array.getD_eq_getD_getElem?,hle] at hl;rw [show b=true from hl]) hcl hun
    rw [Nat.zero_add] at hst;obtain ⟨t,ht⟩:∃t,dsts[i]?=some t:=⟨dsts[i]'(by omega),List.getElem?_eq_getElem (by omega)⟩
    have htd:dsts.getD i 0=t:=by rw [List.getD_eq_getElem?_getD,ht];rfl
    have hfi:=hfm i hil;rw [ho',ht] at hfi;simp only [Bool.and_eq_true,Bool.or_eq_true,decide_eq_true_eq] at hfi;obtain ⟨hgd,hfi⟩:=hfi;have after:∀u w',(R w w'∧(dsts.getD i 0<x.length→F i u w')∧J (upd (fun i=>listed.getD i false) i) w')→wpAny P .any l.toArray Q fuel (listed.setIfInBounds i true) (Act.put ⟨frameOf x.length y,d⟩ o.dst u) w':=by
     rintro u w' ⟨hR,hu,hJw⟩;rw [htd] at hu;have ea:(Act.put ⟨frameOf x.length y,d⟩ o.dst u)=⟨frameOf x.length (fun s=>if s=t then u else y s),d⟩:=by
      rcases hfi with ⟨h1,h2⟩ | ⟨h1,h2⟩
      ·rw [h1];simp only [Act.put,frameOf_set]
      ·have:o.dst=none:=by simpa using h1
       rw [this];simp only [Act.put]
       congr 1
       apply Array.ext_getElem?
       intro s;by_cases hs:s<x.length
       ·rw [frameOf_get _ _ _ hs,frameOf_get _ _ _ hs,if_neg (by omega)]
       ·rw [Array.getElem?_eq_none (by rw [frameOf_size];omega),Array.getElem?_eq_none (by rw [frameOf_size];omega)]
     rw [ea];have hlf:=left_set listed.toList i (by simpa using hli);have hup:∀j,(listed.setIfInBounds i true).getD j false=if j=i then true else listed.getD j false:=by
      intro j;by_cases hji:j=i
      ·subst hji;rw [if_pos rfl,Array.getD_eq_getD_getElem?,Array.getElem?_setIfInBounds_self_of_lt (by omega)];rfl
      ·rw [if_neg hji,Array.getD_eq_getD_getElem?,Array.getD_eq_getD_getElem?,Array.getElem?_setIfInBounds_ne (Ne.symm hji)]
     refine ih _ _ _ ?_ (by rw [Array.size_setIfInBounds,hsz]) ?_ ?_ (hJ _ _ _ ?_ hJw) ?_ ?_
     ·unfold left at hf⊢;rw [Array.toList_setIfInBounds];omega
     ·intro s hs;have hst:s≠t:=fun e=>hs (e▸List.mem_of_getElem? ht);simp only [hst,if_false];exact hy s hs
     ·intro j hj hjt;by_cases hji:j=i
      ·subst hji;rw [htd] at hjt⊢;simpa using hu hjt
      ·rw [Array.getElem?_setIfInBounds_ne (Ne.symm hji)] at hj;have hjl:j<dsts.length:=by
        have:=(Array.getElem?_eq_some_iff.1 hj).1;omega
       have hne:dsts.getD j 0≠t:=by
        rw [List.getD_eq_getElem?_getD,List.getElem?_eq_getElem hjl];intro e;have hit:dsts[i]'(by omega)=t:=(List.getElem?_eq_some_iff.1 ht).2;have:=nodup_inj hnd j i hjl (by omega) (show dsts[j]=dsts[i]'(by omega) from by rw [hit];simpa using e);exact hji this
       simp only [hne,if_false];exact hmono _ _ _ _ (hF j hj hjt) hR
     ·intro j hj;by_cases hji:j=i
      ·subst hji;rw [upd_same,Array.getD_eq_getD_getElem?,Array.getElem?_setIfInBounds_self_of_lt (by omega)];rfl
      ·rw [upd_other _ hji,Array.getD_eq_getD_getElem?,Array.getD_eq_getD_getElem?,Array.getElem?_setIfInBounds_ne (Ne.symm hji)]
     ·intro k q hk hLk j hj;rw [hup] at hLk⊢;by_cases hji:j=i
      ·rw [if_pos hji]
      ·rw [if_neg hji];by_cases hki:k=i
       ·subst hki;rw [ho'] at hk;injection hk with hk;subst hk;unfold preds at hj;obtain ⟨e,he,rfl⟩:=List.mem_map.1 hj;obtain ⟨he1,he2⟩:=List.mem_filter.1 he;have hl:=hall e (by simpa using he1) he2;cases hle:listed[e.on]? with
        | none=>rw [Array.getD_eq_getD_getElem?,hle] at hl;cases hl
        | some b=>rw [Array.getD_eq_getD_getElem?,hle] at hl⊢;exact hl
       ·rw [if_neg hki] at hLk;exact hcl k q hk hLk j hj
     ·intro k hk hLk hkn;rw [hup] at hLk;by_cases hki:k=i
      ·rw [if_pos hki] at hLk;cases hLk
      ·rw [if_neg hki] at hLk;have hne:dsts.getD k 0≠t:=by
        rw [List.getD_eq_getElem?_getD,List.getElem?_eq_getElem (by omega)];intro e;have hit:dsts[i]'(by omega)=t:=(List.getElem?_eq_some_iff.1 ht).2;have:=nodup_inj hnd k i (by omega) (by omega) (show dsts[k]'(by omega)=dsts[i]'(by omega) from by rw [hit];simpa using e);exact hki this
       simp only [hne,if_false];exact hun k hk hLk hkn
    unfold wpOp;rw [ho];simp only
    have hw:Region.wanted o (yielded l.toArray (frameOf x.length y))=true:=by
     have:o.guard=none:=by simpa using hgd
     unfold Region.wanted;rw [this]
    rw [if_pos hw];exact .inl (hst _ _ after)
theorem wp_region_word {id:Nat} {l:List Oper} {x:List Value} {d:List Deferred} {w:World} (hm:P.follows .mixedOrders=true) (n:Nat) (hn:x.length=n) (dsts:List Nat) (R:World→World→Prop) (F:Nat→Value→World→Prop) (J:(Nat→Bool)→World→Prop)
 (hmono:∀i u w w',F i u w→R w w'→F i u w') (hJ:∀L L' w,(∀i,i<l.length→L i=L' i)→J L w→J L' w)
 (hok:invOk l dsts n=true) (hst:J (fun _=>false) w.drew) (hsteps:StepsWord P l J n x d dsts R F 0 l)
 (hend:∀(v:Nat→Value) (L:Nat→Bool) (w':World),J L w'→(∀i,i<l.length→L i=true)→(∀i,i<l.length→dsts.getD i 0<n→F i (v i) w')→Q .normal ⟨(putAll v 0 dsts x).toArray,d⟩ w') :
 (Code.region id l.toArray true).wp P Q ⟨x.toArray,d⟩ w:=by
 subst hn;refine wp_region_any hm ?_;change wpAny P .any l.toArray Q _ _ _ w.drew;rw [frameOf_list x];have hl:∀n,((List.replicate n false).filter (!·)).length=n:=fun n=>by induction n with
  | zero=>rfl
  | succ n ih=>rw [List.replicate_succ];simp
 refine wpAny_word dsts R F J hmono hJ hok hsteps hend _ _ _ _ ?_ (by simp) (fun t ht=>rfl) ?_ (hJ _ _ _ ?_ hst) (fun k q hk hLk=>?_) (fun k hk _ _=>rfl)
 ·unfold left;rw [Array.toList_replicate,hl];exact Nat.le_refl _
 ·intro i hi;rw [Array.getElem?_replicate] at hi;split at hi<;>cases hi
 ·intro i hi;rw [Array.getD_eq_getD_getElem?,Array.getElem?_replicate];split<;>rfl
 ·rw [Array.getD_eq_getD_getElem?,Array.getElem?_replicate] at hLk;split at hLk<;>cases hLk
end
structure Jw (i j:Nat) (P0 P1 P2:World→Prop) (L:Nat→Bool) (w:World):Prop where
 p0:L i=false→L j=false→P0 w
 p1:L i=true→L j=false→P1 w
 p2:L j=true→P2 w
theorem Jw.congr {i j m:Nat} {P0 P1 P2:World→Prop} (hi:i<m) (hj:j<m):∀L L' w,(∀k,k<m→L k=L' k)→Jw i j P0 P1 P2 L w→Jw i j P0 P1 P2 L' w:=
 fun L L' w h hJ=>⟨by rw [←h i hi,←h j hj];exact hJ.p0,by rw [←h i hi,←h j hj];exact hJ.p1,by rw [←h j hj];exact hJ.p2⟩
theorem Jw.pure {i j k:Nat} {P0 P1 P2:World→Prop} {w:World} {L:Nat→Bool} (h:Jw i j P0 P1 P2 L w) (hi:i≠k) (hj:j≠k):Jw i j P0 P1 P2 (upd L k) w:=
 ⟨by rw [upd_other _ hi,upd_other _ hj];exact h.p0,by rw [upd_other _ hi,upd_other _ hj];exact h.p1,by rw [upd_other _ hj];exact h.p2⟩
theorem Jw.first {i j:Nat} {P0 P1 P2:World→Prop} {w':World} {L:Nat→Bool} (hij:j≠i) (hLj:L j=false) (hw:P1 w'):Jw i j P0 P1 P2 (upd L i) w':=
 ⟨by rw [upd_same];intro h;(cases h),fun _ _=>hw,by rw [upd_other _ hij,hLj];intro h;cases h⟩
theorem Jw.second {i j:Nat} {P0 P1 P2:World→Prop} {w':World} {L:Nat→Bool} (hw:P2 w'):Jw i j P0 P1 P2 (upd L j) w':=
 ⟨by rw [upd_same];intro _ h;(cases h),by rw [upd_same];intro _ h;(cases h),fun _=>hw⟩
structure Jo (j:Nat) (P0 P1:World→Prop) (L:Nat→Bool) (w:World):Prop where
 p0:L j=false→P0 w
 p1:L j=true→P1 w
theorem Jo.congr {j m:Nat} {P0 P1:World→Prop} (hj:j<m):∀L L' w,(∀k,k<m→L k=L' k)→Jo j P0 P1 L w→Jo j P0 P1 L' w:=
 fun L L' w h hJ=>⟨by rw [←h j hj];exact hJ.p0,by rw [←h j hj];exact hJ.p1⟩
theorem Jo.pure {j k:Nat} {P0 P1:World→Prop} {w:World} {L:Nat→Bool} (h:Jo j P0 P1 L w) (hj:j≠k):Jo j P0 P1 (upd L k) w:=
 ⟨by rw [upd_other _ hj];exact h.p0,by rw [upd_other _ hj];exact h.p1⟩
theorem Jo.second {j:Nat} {P0 P1:World→Prop} {w':World} {L:Nat→Bool} (hw:P1 w'):Jo j P0 P1 (upd L j) w':=
 ⟨by rw [upd_same];intro h;(cases h),fun _=>hw⟩
end Go.Proofs.YtclgbdfkdbbinaaGreat
