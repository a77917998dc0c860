/-
  What is proved here: words and contracts, a part of those that the statement rests on (P10).
  Conditions: none but that the arguments are values of their types.
-/
import Derived.Test.YtclgbdfkdbbinaaGreatP9
import Derived.Test.YtclgbdfkdbbinaaGreatP1
import Derived.Test.YtclgbdfkdbbinaaGreatP3
import Derived.Test.YtclgbdfkdbbinaaGreatP5
set_option linter.unusedVariables false
set_option linter.unusedSimpArgs false
set_option maxRecDepth 100000
set_option maxHeartbeats 12800000
namespace Go.Proofs.YtclgbdfkdbbinaaGreat
open Go.RowKit
theorem rhget_short (a:Option Addr) (len cap:Nat) (w:World) (h:len<64) :
 Calls Tryz.prog 60 #[.slice a len cap] w fun r w'=>r=.returned (.tuple #[headV 0 0 0 0,.int .i64 10])∧Below w.heap.size w w':=by
 have hi:(len:Int)<64:=by omega
 unfold headV;go_enter Tryz.func60,Tryz.ntmps60
 go_wp2;refine bodyPost_ret (v:=.tuple #[.agg #[.int .i64 0,.int .u64 0,.int .u64 0,.int .i64 0],.int .i64 10]) (by simp [results,Tryz.results60,go_sem]) rfl ⟨rfl,?_⟩;first | exact (Below.refl _ _).alloc (Nat.le_refl _) _ | exact ((Below.refl _ _).alloc (Nat.le_refl _) _).setCell (Nat.le_refl _) _
theorem rhget_no (B:Nat) (a:Option Addr) (len cap:Nat) (zs:List Int) (w:World) (hb:Bys w B a len zs) (hB:B≤w.heap.size) (hcap:len≤cap) (hcm:(cap:Int)≤9223372036854775807) (h:64≤len) (hv:validB (kOf zs) (cOf zs)=false) :
 Calls Tryz.prog 60 #[.slice a len cap] w fun r w'=>r=.returned (.tuple #[headV 0 0 0 0,.int .i64 11])∧Below w.heap.size w w':=by
 have hi:(64:Int)≤len:=by omega
 have hli:(len:Int)≤9223372036854775807:=by omega
 have HV:=Lib.hid hv;have hk:=kOf_bd hb.2.1 (by have:=hb.1;omega);have hc:=cOf_bd hb.2.1 (by have:=hb.1;omega);have hR:∀w1,Below w.heap.size w w1→Bys w1 B a len zs:=fun w1 h1=>hb.below (h1.mono hB);have R1:Hid (∀w1,Below w.heap.size w w1→Calls Tryz.prog 107 #[.slice a len cap,.int .u64 16,.int .i64 2] w1 fun e w'=>e=.returned (.tuple #[.int .u64 (kOf zs),.int .i64 0])∧w1=w'):=Lib.hid (fun w1 h1=>rget_ok B a len cap zs 16 2 w1 (hR w1 h1) (by decide) hli (by omega));have R2:Hid (∀w1,Below w.heap.size w w1→Calls Tryz.prog 107 #[.slice a len cap,.int .u64 24,.int .i64 8] w1 fun e w'=>e=.returned (.tuple #[.int .u64 (eOf zs),.int .i64 0])∧w1=w'):=Lib.hid (fun w1 h1=>rget_ok B a len cap zs 24 8 w1 (hR w1 h1) (by decide) hli (by omega));have R3:Hid (∀w1,Below w.heap.size w w1→Calls Tryz.prog 107 #[.slice a len cap,.int .u64 32,.int .i64 8] w1 fun e w'=>e=.returned (.tuple #[.int .u64 (sOf zs),.int .i64 0])∧w1=w'):=Lib.hid (fun w1 h1=>rget_ok B a len cap zs 32 8 w1 (hR w1 h1) (by decide) hli (by omega));have R4:Hid (∀w1,Below w.heap.size w w1→Calls Tryz.prog 107 #[.slice a len cap,.int .u64 56,.int .i64 2] w1 fun e w'=>e=.returned (.tuple #[.int .u64 (cOf zs),.int .i64 0])∧w1=w'):=Lib.hid (fun w1 h1=>rget_ok B a len cap zs 56 2 w1 (hR w1 h1) (by decide) hli (by omega));obtain ⟨hk0,hk1⟩:=hk;obtain ⟨hc0,hc1⟩:=hc;have HBL:Hid (∀o o',Below w.heap.size w ((w.alloc o).alloc o')):=Lib.hid (fun o o'=>((Below.refl _ _).alloc (Nat.le_refl _) o).alloc (by simp) o');clear hb hv hR;unfold headV at *;go_enter Tryz.func60,Tryz.ntmps60
 go_wp2_with (first | (go_at_call 107;with_reducible refine (R1.out _ (HBL.out _ _)).mono ?_;rintro r w' ⟨rfl,rfl⟩) | (go_at_call 107;with_reducible refine (R2.out _ (HBL.out _ _)).mono ?_;rintro r w' ⟨rfl,rfl⟩) | (go_at_call 107;with_reducible refine (R3.out _ (HBL.out _ _)).mono ?_;rintro r w' ⟨rfl,rfl⟩) | (go_at_call 107;with_reducible refine (R4.out _ (HBL.out _ _)).mono ?_;rintro r w' ⟨rfl,rfl⟩) | (go_at_call 38;refine Calls.mono (rput_arg _ _ _ _ _ HV.out) ?_));rintro r w2 ⟨rfl,hb⟩;have hbb:Below w.heap.size w w2:=(((Below.refl _ _).alloc (Nat.le_refl _) _).alloc (by simp) _).trans (hb.mono (by simp;omega));obtain ⟨q0,q1,q2,q3⟩:=(((Blk.new w _ _).alloc _).later hb).c4;obtain ⟨f0,f1,f2,f3⟩:=(((Blk.new w _ _).alloc _).later hb).f4;clear hb;go_wp2;go_quiet (fail)
 go_wp2;refine bodyPost_ret (v:=.tuple #[.agg #[.int .i64 0,.int .u64 0,.int .u64 0,.int .i64 0],.int .i64 11]) (by simp [results,Tryz.results60,go_sem,q0,q1,q2,q3]) rfl ⟨rfl,?_⟩;exact ((((below_drewN hbb _).setCell (Nat.le_refl _) _).setCell (Nat.le_refl _) _).setCell (Nat.le_refl _) _).setCell (Nat.le_refl _) _
theorem rhget_yes (B:Nat) (a:Option Addr) (len cap:Nat) (zs:List Int) (w:World) (hb:Bys w B a len zs) (hB:B≤w.heap.size) (hcap:len≤cap) (hcm:(cap:Int)≤9223372036854775807) (h:64≤len) (hv:validB (kOf zs) (cOf zs)=true) (y:Bool) (hy:decide (enc (kOf zs) (eOf zs) (sOf zs) (cOf zs)=piece zs 0 64)=y) :
 Calls Tryz.prog 60 #[.slice a len cap] w fun r w'=>r=.returned (if y then .tuple #[headV (kOf zs) (eOf zs) (sOf zs) (cOf zs),.int .i64 0] else .tuple #[headV 0 0 0 0,.int .i64 11])∧Below w.heap.size w w':=by
 have hi:(64:Int)≤len:=by omega
 have hli:(len:Int)≤9223372036854775807:=by omega
 have hci:(64:Int)≤cap:=by omega
 obtain ⟨b,off,rfl,-,-⟩:=hb.2.2 (by omega);have hk:=kOf_bd hb.2.1 (by have:=hb.1;omega);have hc:=cOf_bd hb.2.1 (by have:=hb.1;omega);have he:=eOf_bd hb.2.1 (by have:=hb.1;omega);have hs:=sOf_bd hb.2.1 (by have:=hb.1;omega);have hR:∀w1,Below w.heap.size w w1→Bys w1 B (some ⟨b,off,none⟩) len zs:=fun w1 h1=>hb.below (h1.mono hB);have R1:Hid (∀w1,Below w.heap.size w w1→Calls Tryz.prog 107 #[.slice (some ⟨b,off,none⟩) len cap,.int .u64 16,.int .i64 2] w1 fun e w'=>e=.returned (.tuple #[.int .u64 (kOf zs),.int .i64 0])∧w1=w'):=Lib.hid (fun w1 h1=>rget_ok B _ len cap zs 16 2 w1 (hR w1 h1) (by decide) hli (by omega));have R2:Hid (∀w1,Below w.heap.size w w1→Calls Tryz.prog 107 #[.slice (some ⟨b,off,none⟩) len cap,.int .u64 24,.int .i64 8] w1 fun e w'=>e=.returned (.tuple #[.int .u64 (eOf zs),.int .i64 0])∧w1=w'):=Lib.hid (fun w1 h1=>rget_ok B _ len cap zs 24 8 w1 (hR w1 h1) (by decide) hli (by omega));have R3:Hid (∀w1,Below w.heap.size w w1→Calls Tryz.prog 107 #[.slice (some ⟨b,off,none⟩) len cap,.int .u64 32,.int .i64 8] w1 fun e w'=>e=.returned (.tuple #[.int .u64 (sOf zs),.int .i64 0])∧w1=w'):=Lib.hid (fun w1 h1=>rget_ok B _ len cap zs 32 8 w1 (hR w1 h1) (by decide) hli (by omega));have R4:Hid (∀w1,Below w.heap.size w w1→Calls Tryz.prog 107 #[.slice (some ⟨b,off,none⟩) len cap,.int .u64 56,.int .i64 2] w1 fun e w'=>e=.returned (.tuple #[.int .u64 (cOf zs),.int .i64 0])∧w1=w'):=Lib.hid (fun w1 h1=>rget_ok B _ len cap zs 56 2 w1 (hR w1 h1) (by decide) hli (by omega));have RP:Hid (∀w1,Calls Tryz.prog 38 #[headV (kOf zs) (eOf zs) (sOf zs) (cOf zs)] w1 fun r w'=>(∃u,r=.returned (.tuple #[u,.int .i64 0])∧w'.ownsRow w1.heap.size 5 1 u 64 ((enc (kOf zs) (eOf zs) (sOf zs) (cOf zs)).map (Value.int .u8)))∧Below w1.heap.size w1 w'):=Lib.hid (fun w1=>k3_rput_ok _ _ _ _ w1 hv he.1 he.2 hs.1 hs.2);have HR:=Lib.hid hR;have hq1:((strOfNums (enc (kOf zs) (eOf zs) (sOf zs) (cOf zs))).toList==(strOfNums (piece zs 0 64)).toList)=y:=by
  rw [←hy];by_cases h:enc (kOf zs) (eOf zs) (sOf zs) (cOf zs)=piece zs 0 64
  ·rw [h];simp
  ·have h3:¬(strOfNums (enc (kOf zs) (eOf zs) (sOf zs) (cOf zs))).toList=(strOfNums (piece zs 0 64)).toList:=fun e=>h ((strOfNums_eq (enc_bd _ _ _ _) (piece_mem hb.2.1)).1 (k3_toList_inj e));simp [h,h3]
 have hq2:((strOfNums (enc (kOf zs) (eOf zs) (sOf zs) (cOf zs))).toList != (strOfNums (piece zs 0 64)).toList)=!y:=by
  unfold bne;rw [hq1]
 obtain ⟨S2,hS2⟩:∃S,strOfNums (piece zs 0 64)=S:=⟨_,rfl⟩
 rw [hS2] at hq1 hq2;obtain ⟨hk0,hk1⟩:=hk;obtain ⟨hc0,hc1⟩:=hc;have HBL:Hid (∀o o',Below w.heap.size w ((w.alloc o).alloc o')):=Lib.hid (fun o o'=>((Below.refl _ _).alloc (Nat.le_refl _) o).alloc (by simp) o');clear hb hv hR hy he hs;unfold headV at *;go_enter Tryz.func60,Tryz.ntmps60
 go_wp2_with (first | (go_at_call 107;with_reducible refine (R1.out _ (HBL.out _ _)).mono ?_;rintro r w' ⟨rfl,rfl⟩) | (go_at_call 107;with_reducible refine (R2.out _ (HBL.out _ _)).mono ?_;rintro r w' ⟨rfl,rfl⟩) | (go_at_call 107;with_reducible refine (R3.out _ (HBL.out _ _)).mono ?_;rintro r w' ⟨rfl,rfl⟩) | (go_at_call 107;with_reducible refine (R4.out _ (HBL.out _ _)).mono ?_;rintro r w' ⟨rfl,rfl⟩) | (go_at_call 38;refine Calls.mono (RP.out _) ?_));rintro r w2 ⟨⟨u,rfl,hm⟩,hb⟩;obtain ⟨ua,uc,rfl⟩:=own_slice hm;have hbb:Below w.heap.size w w2:=(((Below.refl _ _).alloc (Nat.le_refl _) _).alloc (by simp) _).trans (hb.mono (by simp;omega));obtain ⟨q0,q1,q2,q3⟩:=(((Blk.new w _ _).alloc _).later hb).c4;obtain ⟨f0,f1,f2,f3⟩:=(((Blk.new w _ _).alloc _).later hb).f4;obtain ⟨p0,p1,p2,p3⟩:=((Blk.new (w.alloc _) _ _).later hb).c4;simp only [World.size_alloc] at p0 p1 p2 p3;have hv1:=fun n=>((Bys.own (enc_bd _ _ _ _) hm).drewN n).conv uc;have hv2:=fun n=>(((HR.out w2 hbb).sub (p:=0) (n:=64) (by omega)).drewN n).conv cap;simp only [Nat.add_zero,hS2] at hv2;obtain ⟨S1,hS1⟩:∃S,strOfNums (enc (kOf zs) (eOf zs) (sOf zs) (cOf zs))=S:=⟨_,rfl⟩
 simp only [hS1] at hv1 hq1 hq2;have HBB:=Lib.hid hbb;clear hb hm hbb hS1 hS2;cases y with
 | true=>
   go_wp2;go_quiet (fail)
   go_wp2;refine bodyPost_ret (v:=.tuple #[.agg #[.int .i64 (kOf zs),.int .u64 (eOf zs),.int .u64 (sOf zs),.int .i64 (cOf zs)],.int .i64 0]) (by simp [results,Tryz.results60,go_sem,q0,q1,q2,q3]) rfl ⟨rfl,?_⟩;exact ((((below_drewN HBB.out _).setCell (Nat.le_refl _) _).setCell (Nat.le_refl _) _).setCell (Nat.le_refl _) _).setCell (Nat.le_refl _) _
 | false=>
   go_wp2;go_quiet (fail)
   go_wp2;refine bodyPost_ret (v:=.tuple #[.agg #[.int .i64 0,.int .u64 0,.int .u64 0,.int .i64 0],.int .i64 11]) (by simp [results,Tryz.results60,go_sem,q0,q1,q2,q3]) rfl ⟨rfl,?_⟩;exact ((((below_drewN HBB.out _).setCell (Nat.le_refl _) _).setCell (Nat.le_refl _) _).setCell (Nat.le_refl _) _).setCell (Nat.le_refl _) _
theorem rhget_any (B:Nat) (a:Option Addr) (len cap:Nat) (zs:List Int) (w:World) (hb:Bys w B a len zs) (hB:B≤w.heap.size) (hcap:len≤cap) (hcm:(cap:Int)≤9223372036854775807) :
 Calls Tryz.prog 60 #[.slice a len cap] w fun r w'=>r=.returned (k3_getV zs)∧Below w.heap.size w w':=by
 have hz:=hb.1;unfold k3_getV;by_cases h:zs.length<64
 ·rw [if_pos h];exact rhget_short a len cap w (by omega)
 ·rw [if_neg h];cases hv:validB (kOf zs) (cOf zs) with
  | false=>
    have:isHead zs=false:=by unfold isHead;rw [hv];rfl
    rw [this];exact rhget_no B a len cap zs w hb hB hcap hcm (by omega) hv
  | true=>
    have:isHead zs=decide (enc (kOf zs) (eOf zs) (sOf zs) (cOf zs)=piece zs 0 64):=by unfold isHead;rw [hv];rfl
    exact rhget_yes B a len cap zs w hb hB hcap hcm (by omega) hv (isHead zs) this.symm
theorem at2_no {L:List Sg} {k:Nat} (h:¬((L.getD k sg0).ty=2∨(L.getD k sg0).ty=7)∨(L.getD k sg0).fi=0):at2 L k=0:=by
 unfold at2 step2;rw [if_neg];rintro ⟨h1,h2⟩;rcases h with h | h
 ·exact h h1
 ·exact h2 h
theorem at2_yes {L:List Sg} {k:Nat} (h:(L.getD k sg0).ty=2∨(L.getD k sg0).ty=7) (hf:(L.getD k sg0).fi≠0):at2 L k=if (L.find? (inB (L.getD k sg0))).isSome=true then 0 else 11:=by
 unfold at2 step2;rw [if_pos ⟨h,hf⟩,any_find]
theorem upto_succ {f:Nat→Int} {k:Nat} (h:∀j,j<k→f j=0) (hk:f k=0):∀j,j<k+1→f j=0:=by
 intro j hj;by_cases e:j=k
 ·subst e;exact hk
 ·exact h j (by omega)
theorem loaded_any (B:Nat) (a:Option Addr) (len cap:Nat) (L:List Sg) (w:World) (hs:Sgs w B a len L) (hB:B≤w.heap.size) (hl:(len:Int)≤9223372036854775807) :
 Calls Tryz.prog 92 #[.slice a len cap] w fun e w'=>e=.returned (.int .i64 (firstErr (at2 L) 0 L.length))∧Below w.heap.size w w':=by
 have hmf:∀(fn:Fn) (first cap:Array Value) (w:World),(Instr.makeFunc fn first cap).run Tryz.prog w=.ok (.func fn first cap) w:=fun _ _ _ _=>rfl;obtain ⟨r,hr⟩:∃r,firstErr (at2 L) 0 L.length=r:=⟨_,rfl⟩
 rw [hr];have HR:=Lib.hid hr;have HS:=Lib.hid hs;clear hr hs;go_enter Tryz.func92,Tryz.ntmps92
 go_wp2;go_loopw [4,5,6,9] (fun _ _ _ i wr=>∃k:Nat,k≤len∧i=.int .i64 k∧(∀j,j<k→at2 L j=0)∧Below w.heap.size w wr) (fun _ _ _ i _=>len-(intOf i).toNat)
 case atStart=>exact ⟨0,Nat.zero_le _,rfl,fun j hj=>absurd hj (by omega),Below.refl _ _⟩
 case round=>
  obtain ⟨k,hk,rfl,hno,hbel⟩:=hrel;by_cases hlt:k<len
  ·obtain ⟨b,off,rfl,hbB,hcell⟩:=HS.out.hc (by omega);have hsev:=(hcell k hlt).below (hbel.mono hB) hbB;have hok:=HS.out.okAt hlt;have hLl:=HS.out.hl;have HY:=Lib.hid (at2_yes (L:=L) (k:=k));have HN:=Lib.hid (at2_no (L:=L) (k:=k));have HNO:=Lib.hid (upto_succ hno);have HRE:Hid (at2 L k≠0→r=at2 L k):=Lib.hid (fun h=>by
    rw [←HR.out];exact firstErr_at (fun j _ hj=>hno j hj) (Nat.zero_le _) (by omega) h)
   obtain ⟨s,hsd⟩:∃s,L.getD k sg0=s:=⟨_,rfl⟩
   rw [hsd] at hsev hok HY HN;have HOK:=Lib.hid hok;have HB2:Hid (∀o,Below w.heap.size w (wr.alloc o)):=Lib.hid (fun o=>hbel.alloc hbel.size o);have hbs:=hbel.size;have HC:=Lib.hid (search50 B (some ⟨b,off,none⟩) len cap L (inB s) wr.heap.size (wr.alloc (.cells s.cells 65)) (HS.out.below ((HB2.out _).mono hB)) (by simp;omega) hl (fun q w1 hq h1=>
    loaded1_any s q wr.heap.size w1 hok hq ((Blk.new wr _ _).later h1).sev))
   clear hcell hsd hno hbel hok;obtain ⟨c0,c1,c2,c3,c4,c5,c6⟩:=hsev;obtain ⟨ty,fl,ot,va,fi,me,al⟩:=s;simp only at c0 c1 c2 c3 c4 c5 c6;by_cases hk7:ty=2∨ty=7
   ·by_cases hfi:fi=0
    ·have hn:=Lib.hid (HNO.out (HN.out (.inr hfi)));subst hfi;rcases hk7 with rfl | rfl
     all_goals
      clear HY HN HNO HRE HC;go_wp2;go_roundw
      case rel=>exact ⟨k+1,by omega,by go_num,hn.out,HB2.out _⟩
      case measure=>simp [intOf];omega
    ·have hy:=HY.out hk7 hfi;have hf0:(fi==0)=false:=by simpa using hfi
     obtain ⟨q,hq⟩:∃q,(L.find? (inB ⟨ty,fl,ot,va,fi,me,al⟩)).isSome=q:=⟨_,rfl⟩
     have hc:=HC.out;rw [hq] at hy hc;rw [foundV_eq] at hc;generalize (L.find? (inB ⟨ty,fl,ot,va,fi,me,al⟩)).getD sg0=s2 at hc;obtain ⟨ty2,fl2,ot2,va2,fi2,me2,al2⟩:=s2;have HC2:=Lib.hid hc;clear hc HC HY HN hq;unfold Sg.val Sg.cells at HC2;simp only at HC2;cases q with
     | true=>
       have hn:=Lib.hid (HNO.out (by rw [hy];rfl));rcases hk7 with rfl | rfl
       all_goals
        clear HRE HNO hy;go_wp2_with fail;refine HC2.out.mono ?_;rintro e w2 ⟨rfl,hb2⟩;have hbb:=(HB2.out _).trans (hb2.mono (HB2.out _).size);clear hb2;go_wp2;go_roundw
        case rel=>exact ⟨k+1,by omega,by go_num,hn.out,hbb.alloc hbb.size _⟩
        case measure=>simp [intOf];omega
     | false=>
       have hr11:r=11:=by
        have h11:at2 L k=11:=by rw [hy];rfl
        rw [HRE.out (by rw [h11];decide),h11]
       subst hr11;rcases hk7 with rfl | rfl
       all_goals
        clear HRE HNO hy;go_wp2_with fail;refine HC2.out.mono ?_;rintro e w2 ⟨rfl,hb2⟩;have hbb:=(HB2.out _).trans (hb2.mono (HB2.out _).size);clear hb2;go_wp2;go_ret;exact ⟨rfl,hbb.alloc hbb.size _⟩
   ·have hn:=Lib.hid (HNO.out (HN.out (.inl hk7)));have h2:(ty != 2)=true:=by simp;omega
    have h7:(ty != 7)=true:=by simp;omega
    clear HY HN HNO HRE HC hk7;go_wp2;go_roundw
    case rel=>exact ⟨k+1,by omega,by go_num,hn.out,HB2.out _⟩
    case measure=>simp [intOf];omega
  ·obtain rfl:k=len:=by omega
   have hr0:r=0:=by
    rw [←HR.out];exact firstErr_no (fun j _ hj=>hno j (by have:=HS.out.hl;omega))
   subst hr0;go_wp2;go_ret;exact ⟨rfl,hbel⟩
theorem at1_alone {L:List Sg} {size:Int} {k:Nat} (h:aloneS (L.getD k sg0) size≠0):at1 L size k=aloneS (L.getD k sg0) size:=by
 unfold at1 step1;rw [if_pos h]
theorem at1_load {L:List Sg} {size:Int} {k:Nat} (h:aloneS (L.getD k sg0) size=0) (h1:(L.getD k sg0).ty=1):at1 L size k=if firstS (L.getD k sg0)<lastEnd (L.take k) then 12 else 0:=by
 unfold at1 step1;rw [if_neg (by omega),if_pos h1]
theorem at1_one {L:List Sg} {size:Int} {k:Nat} (h:aloneS (L.getD k sg0) size=0) (h1:(L.getD k sg0).ty=2∨(L.getD k sg0).ty=7):at1 L size k=if ((L.take k).find? (kindB (L.getD k sg0).ty)).isSome=true then 12 else 0:=by
 unfold at1 step1;rw [if_neg (by omega),if_neg (by omega),if_pos h1,any_find];rfl
theorem at1_rest {L:List Sg} {size:Int} {k:Nat} (h:aloneS (L.getD k sg0) size=0) (h1:(L.getD k sg0).ty≠1) (h2:(L.getD k sg0).ty≠2) (h7:(L.getD k sg0).ty≠7):at1 L size k=0:=by
 unfold at1 step1;rw [if_neg (by omega),if_neg h1,if_neg (by omega)]
theorem lastEnd_step {L:List Sg} {k:Nat} (h:k<L.length):lastEnd (L.take (k+1))=if (L.getD k sg0).ty=1 then behindS (L.getD k sg0) else lastEnd (L.take k):=by
 rw [take_snoc h,lastEnd_snoc]
theorem chk_at1' {L:List Sg} {size r:Int} {k:Nat} (hr:checkS L size=r) (h:∀j,j<k→at1 L size j=0) (hk:k<L.length) (he:at1 L size k≠0):r=at1 L size k:=by
 rw [←hr,chk_at1 h hk he]
theorem check1_any (B:Nat) (a:Option Addr) (len cap:Nat) (L:List Sg) (size:Int) (w:World) (hs:Sgs w B a len L) (hB:B≤w.heap.size) (hcap:len≤cap) (hcm:(cap:Int)≤9223372036854775807) (z0:0≤size) (z1:size≤18446744073709551615) :
 Calls Tryz.prog 47 #[.slice a len cap,.int .u64 size] w fun e w'=>e=.returned (.int .i64 (checkS L size))∧Below w.heap.size w w':=by
 obtain ⟨r,hr⟩:∃r,checkS L size=r:=⟨_,rfl⟩
 rw [hr];have HR:=Lib.hid hr;have HS:=Lib.hid hs;clear hr hs;go_enter Tryz.func47,Tryz.ntmps47
 go_wp2;go_loopw [5,6,7,8,9,10,11,12,15] (fun v _ _ _ _ _ _ _ i wr=>∃k:Nat,k≤len∧i=.int .i64 k∧v=.int .u64 (lastEnd (L.take k))∧(∀j,j<k→at1 L size j=0)∧Below w.heap.size w wr) (fun _ _ _ _ _ _ _ _ i _=>len-(intOf i).toNat)
 case atStart=>exact ⟨0,Nat.zero_le _,rfl,rfl,fun j hj=>absurd hj (by omega),Below.refl _ _⟩
 case round=>
  obtain ⟨k,hk,rfl,rfl,hno,hbel⟩:=hrel;by_cases hlt:k<len
  ·obtain ⟨b,off,rfl,hbB,hcell⟩:=HS.out.hc (by omega);have hsev:=(hcell k hlt).below (hbel.mono hB) hbB;have hok:=HS.out.okAt hlt;have hLl:=HS.out.hl;have HA:=Lib.hid (at1_alone (L:=L) (size:=size) (k:=k));have HL:=Lib.hid (at1_load (L:=L) (size:=size) (k:=k));have HO:=Lib.hid (at1_one (L:=L) (size:=size) (k:=k));have HE:=Lib.hid (at1_rest (L:=L) (size:=size) (k:=k));have HLE:=Lib.hid (lastEnd_step (L:=L) (k:=k) (by omega));have HNO:=Lib.hid (upto_succ hno);have HRE:=Lib.hid (chk_at1' HR.out hno (by omega));have HF:Hid (∀t w1,Below w.heap.size w w1→Calls Tryz.prog 48 #[.slice (some ⟨b,off,none⟩) k cap,.int .u32 t] w1 fun e w'=>e=.returned (.tuple #[foundV ((L.take k).find? (kindB t)),.bool ((L.take k).find? (kindB t)).isSome])∧Below w1.heap.size w1 w'):=Lib.hid (fun t w1 h1=>
    sfind_any B _ k cap (L.take k) t w1 ((HS.out.below (h1.mono hB)).front (by omega)) (by have:=h1.size;omega) (by omega))
   obtain ⟨s,hsd⟩:∃s,L.getD k sg0=s:=⟨_,rfl⟩
   obtain ⟨le,hle⟩:∃le,lastEnd (L.take k)=le:=⟨_,rfl⟩
   rw [hsd] at hsev hok HA HL HO HE HLE;rw [hle] at HL HLE⊢;have HB2:Hid (∀o,Below w.heap.size w (wr.alloc o)):=Lib.hid (fun o=>hbel.alloc hbel.size o);have hbs:=hbel.size;have HCA:=Lib.hid (fun w1=>alone_any s size w1 hok z0 z1);have HPA:=Lib.hid (fun h w1=>pages_ok s w1 hok h);have HSZ:=Lib.hid hlt;clear hcell hsd hno hbel hok hle;obtain ⟨c0,c1,c2,c3,c4,c5,c6⟩:=hsev;obtain ⟨e,he⟩:∃e,aloneS s size=e:=⟨_,rfl⟩
   rw [he] at HA HCA HL HO HE;by_cases he0:e=0
   ·subst he0;have hal:=alone0 he;have HV:=Lib.hid hal.va;clear he hal HA;obtain ⟨ty,fl,ot,va,fi,me,al⟩:=s;simp only at c0 c1 c2 c3 c4 c5 c6;by_cases h1:ty=1
    ·have hll:=HL.out rfl h1;have hv:=HV.out (by show ty≠0;omega);have HP:=Lib.hid (HPA.out hv);have HLE':=HLE.out;rw [if_pos (show (⟨ty,fl,ot,va,fi,me,al⟩:Sg).ty=1 from h1)] at HLE';subst h1;generalize firstS ⟨1,fl,ot,va,fi,me,al⟩=fs at hll HP;generalize behindS ⟨1,fl,ot,va,fi,me,al⟩=bh at HLE' HP;clear HF HL HO HE HPA HV hv;unfold Sg.val at *;simp only at HCA HP;by_cases hov:fs<le
     ·rw [if_pos hov] at hll;have hr2:=HRE.out (by rw [hll];decide);rw [hll] at hr2;subst hr2;clear HRE HNO hll HLE HLE';go_wp2_with fail;refine (HCA.out _).mono ?_;rintro e w2 ⟨rfl,hb2⟩;obtain ⟨q0,q1,q2,q3,q4,q5,q6⟩:=((Blk.new wr _ _).later hb2).c7;have HB3:=Lib.hid ((HB2.out _).trans (hb2.mono (HB2.out _).size));clear hb2;go_wp2_with fail;refine (HP.out _).mono ?_;rintro e w3 ⟨rfl,hb3⟩;have HB4:=Lib.hid (HB3.out.trans (hb3.mono HB3.out.size));clear hb3;go_wp2;go_ret;exact ⟨rfl,HB4.out⟩
     ·rw [if_neg hov] at hll;have hn:=Lib.hid (HNO.out hll);clear HRE HNO hll;go_wp2_with fail;refine (HCA.out _).mono ?_;rintro e w2 ⟨rfl,hb2⟩;obtain ⟨q0,q1,q2,q3,q4,q5,q6⟩:=((Blk.new wr _ _).later hb2).c7;have HB3:=Lib.hid ((HB2.out _).trans (hb2.mono (HB2.out _).size));clear hb2;go_wp2_with fail;refine (HP.out _).mono ?_;rintro e w3 ⟨rfl,hb3⟩;have HB4:=Lib.hid (HB3.out.trans (hb3.mono HB3.out.size));clear hb3;go_wp2;go_roundw
      case rel=>exact ⟨k+1,by omega,by go_num,by rw [HLE'],hn.out,HB4.out⟩
      case measure=>simp [intOf];omega
    ·have HLE':=HLE.out;rw [if_neg (show ¬(⟨ty,fl,ot,va,fi,me,al⟩:Sg).ty=1 from h1)] at HLE';by_cases h27:ty=2∨ty=7
     ·have hoo:=HO.out rfl h27;have HFT:=Lib.hid (HF.out ty);simp only at hoo;obtain ⟨q,hq⟩:∃q,((L.take k).find? (kindB ty)).isSome=q:=⟨_,rfl⟩
      rw [hq,foundV_eq] at HFT;rw [hq] at hoo;generalize ((L.take k).find? (kindB ty)).getD sg0=s2 at HFT;obtain ⟨ty2,fl2,ot2,va2,fi2,me2,al2⟩:=s2;clear HF HL HO HE HPA HV hq;unfold Sg.val at *;simp only at HCA HFT;have HOO:=Lib.hid hoo;rcases h27 with rfl | rfl
      all_goals
       clear hoo;go_wp2_with fail;refine (HCA.out _).mono ?_;rintro e w2 ⟨rfl,hb2⟩;obtain ⟨q0,q1,q2,q3,q4,q5,q6⟩:=((Blk.new wr _ _).later hb2).c7;have hqa:=fun o=>(((Blk.new wr _ _).later hb2).alloc o).c7.1;have hqb:=fun o=>((((Blk.new wr _ _).later hb2).drew).alloc o).c7.1;have HB3:=Lib.hid ((HB2.out _).trans (hb2.mono (HB2.out _).size));clear hb2;go_wp2;go_region_with (go_at_call 48;refine (HFT.out _ (by first | exact HB3.out.drew | exact HB3.out.drew.alloc HB3.out.size _)).mono ?_;rintro r2 w4 ⟨rfl,hb4⟩;(first | (have zb:Blk w4 w2.heap.size #[.int .u32 0,.int .u32 0,.int .u64 0,.int .u64 0,.int .u64 0,.int .u64 0,.int .u64 0] 65:=(Blk.new w2.drew _ _).later hb4;have zz:=zb.c7;have zf:=zb.f7;clear zb;obtain ⟨z0',z1',z2',z3',z4',z5',z6'⟩:=zz;obtain ⟨y0,y1,y2,y3,y4,y5,y6⟩:=zf) | skip);have HB5:Hid (Below w.heap.size w w4):=Lib.hid (by first | exact HB3.out.drew.trans (hb4.mono HB3.out.size) | exact (HB3.out.drew.alloc HB3.out.size _).trans (hb4.mono (HB3.out.drew.alloc HB3.out.size _).size));clear hb4)
       all_goals
        cases q with
        | true=>
          have hoo:=HOO.out;rw [if_pos rfl] at hoo;have hr2:=HRE.out (by rw [hoo];decide);rw [hoo] at hr2;subst hr2;clear HRE HNO hoo HLE HLE' HOO;go_wp2;go_ret;exact ⟨rfl,by first | with_reducible exact HB5.out.alloc HB5.out.size _ | with_reducible exact (((((((HB5.out.setCell HB3.out.size _).setCell HB3.out.size _).setCell HB3.out.size _).setCell HB3.out.size _).setCell HB3.out.size _).setCell HB3.out.size _).setCell HB3.out.size _)⟩
        | false=>
          have hoo:=HOO.out;rw [if_neg (by decide)] at hoo;have hn:=Lib.hid (HNO.out hoo);clear HRE HNO hoo HOO;go_wp2;go_roundw
          case rel=>exact ⟨k+1,by omega,by go_num,by rw [HLE'],hn.out,by first | with_reducible exact HB5.out.alloc HB5.out.size _ | with_reducible exact (((((((HB5.out.setCell HB3.out.size _).setCell HB3.out.size _).setCell HB3.out.size _).setCell HB3.out.size _).setCell HB3.out.size _).setCell HB3.out.size _).setCell HB3.out.size _)⟩
          case measure=>simp [intOf];omega
     ·have hn:=Lib.hid (HNO.out (HE.out rfl h1 (fun h=>h27 (.inl h)) (fun h=>h27 (.inr h))));have h1':(ty==1)=false:=by simpa using h1
      have h2':(ty==2)=false:=by simp;omega
      have h7':(ty==7)=false:=by simp;omega
      clear HRE HNO HF HL HO HE HPA HV h27 h1;unfold Sg.val at *;simp only at HCA;go_wp2_with fail;refine (HCA.out _).mono ?_;rintro e w2 ⟨rfl,hb2⟩;obtain ⟨q0,q1,q2,q3,q4,q5,q6⟩:=((Blk.new wr _ _).later hb2).c7;have HB3:=Lib.hid ((HB2.out _).trans (hb2.mono (HB2.out _).size));clear hb2;go_wp2;go_roundw
      case rel=>exact ⟨k+1,by omega,by go_num,by rw [HLE'],hn.out,HB3.out⟩
      case measure=>simp [intOf];omega
   ·have ha:=HA.out he0;have hr2:=HRE.out (by rw [ha];exact he0);rw [ha] at hr2;subst hr2;have he0':(r != 0)=true:=by simpa using he0
    obtain ⟨ty,fl,ot,va,fi,me,al⟩:=s;simp only at c0 c1 c2 c3 c4 c5 c6;clear HRE HNO HF HL HO HE HPA HA ha;unfold Sg.val at *;simp only at HCA;go_wp2_with fail;refine (HCA.out _).mono ?_;rintro e w2 ⟨rfl,hb2⟩;have HB3:=Lib.hid ((HB2.out _).trans (hb2.mono (HB2.out _).size));clear hb2;go_wp2;go_ret;exact ⟨rfl,HB3.out⟩
  ·obtain rfl:k=len:=by omega
   have hLl:=HS.out.hl;have hrr:checkS L size=firstErr (at2 L) 0 L.length:=by
    unfold checkS;rw [firstErr_no (fun j _ hj=>hno j (by omega)),if_pos rfl]
   have HC:=Lib.hid (loaded_any B a k cap L wr (HS.out.below (hbel.mono hB)) (by have:=hbel.size;omega) (by omega));rw [←hrr,HR.out] at HC;have HB3:=Lib.hid hbel;clear hbel hno hrr;go_wp2_with fail;refine HC.out.mono ?_;rintro e w2 ⟨rfl,hb2⟩;have HB4:=Lib.hid (HB3.out.trans (hb2.mono HB3.out.size));clear hb2;go_wp2;go_ret;exact ⟨rfl,HB4.out⟩
theorem fr189 (y:Nat→Value):frameOf 189 y=#[y 0,y 1,y 2,y 3,y 4,y 5,y 6,y 7,y 8,y 9,y 10,y 11,y 12,y 13,y 14,y 15,y 16,y 17,y 18,y 19,y 20,y 21,y 22,y 23,y 24,y 25,y 26,y 27,y 28,y 29,y 30,y 31,y 32,y 33,y 34,y 35,y 36,y 37,y 38,y 39,y 40,y 41,y 42,y 43,y 44,y 45,y 46,y 47,y 48,y 49,y 50,y 51,y 52,y 53,y 54,y 55,y 56,y 57,y 58,y 59,y 60,y 61,y 62,y 63,y 64,y 65,y 66,y 67,y 68,y 69,y 70,y 71,y 72,y 73,y 74,y 75,y 76,y 77,y 78,y 79,y 80,y 81,y 82,y 83,y 84,y 85,y 86,y 87,y 88,y 89,y 90,y 91,y 92,y 93,y 94,y 95,y 96,y 97,y 98,y 99,y 100,y 101,y 102,y 103,y 104,y 105,y 106,y 107,y 108,y 109,y 110,y 111,y 112,y 113,y 114,y 115,y 116,y 117,y 118,y 119,y 120,y 121,y 122,y 123,y 124,y 125,y 126,y 127,y 128,y 129,y 130,y 131,y 132,y 133,y 134,y 135,y 136,y 137,y 138,y 139,y 140,y 141,y 142,y 143,y 144,y 145,y 146,y 147,y 148,y 149,y 150,y 151,y 152,y 153,y 154,y 155,y 156,y 157,y 158,y 159,y 160,y 161,y 162,y 163,y 164,y 165,y 166,y 167,y 168,y 169,y 170,y 171,y 172,y 173,y 174,y 175,y 176,y 177,y 178,y 179,y 180,y 181,y 182,y 183,y 184,y 185,y 186,y 187,y 188]:=rfl
theorem lastEnd_none {L:List Sg}:∀{k:Nat},k≤L.length→(∀j,j<k→(L.getD j sg0).ty≠1)→lastEnd (L.take k)=0
 | 0,_,_=>rfl
 | k+1,hk,h=>by
   rw [lastEnd_step (by omega),if_neg (h k (by omega))];exact lastEnd_none (by omega) (fun j hj=>h j (by omega))
theorem lastEnd_of {L:List Sg} {m:Nat} (h1:(L.getD m sg0).ty=1):∀{k:Nat},m<k→k≤L.length→(∀j,m+1≤j→j<k→(L.getD j sg0).ty≠1)→lastEnd (L.take k)=behindS (L.getD m sg0)
 | 0,h,_,_=>by omega
 | k+1,hm,hk,h=>by
   rw [lastEnd_step (by omega)];by_cases e:m=k
   ·subst e;rw [if_pos h1]
   ·rw [if_neg (h k (by omega) (by omega))];exact lastEnd_of h1 (by omega) (by omega) (fun j h2 h3=>h j h2 (by omega))
theorem take_getD {L:List Sg} {k j:Nat} (h:j<k):(L.take k).getD j sg0=L.getD j sg0:=by
 rw [List.getD_eq_getElem?_getD,List.getD_eq_getElem?_getD,List.getElem?_take_of_lt h]
theorem find_none {L:List Sg} {k:Nat} {p:Sg→Bool} (hk:k≤L.length) (h:∀j,j<k→p (L.getD j sg0)=false):((L.take k).find? p).isSome=false:=by
 rw [find_no]
 ·rfl
 ·intro j hj;have hj':j<k:=by rw [List.length_take] at hj;omega
  rw [take_getD hj'];exact h j hj'
theorem find_some {L:List Sg} {k m:Nat} {p:Sg→Bool} (hk:k≤L.length) (hm:m<k) (h:p (L.getD m sg0)=true):((L.take k).find? p).isSome=true:=by
 rw [←any_find,List.any_eq_true];refine ⟨L.getD m sg0,?_,h⟩;rw [←take_getD hm];exact getD_mem (by rw [List.length_take];omega)
theorem down_more {P:Nat→Prop} {m k:Nat} (h:∀j,m+1≤j→j<k→P j) (hm:P m):∀j,m≤j→j<k→P j:=by
 intro j h1 h2;by_cases e:j=m
 ·subst e;exact hm
 ·exact h j (by omega) h2
theorem in_ref {s k:Sg} (hs:s.Ok) (hk:k.Ok) {size:Int} (s1:size≤18446744073709551615) (h1:s.ot≤size∧s.fi≤size-s.ot) (h2:k.ty=1→k.ot≤size∧k.fi≤size-k.ot) :
 inB s k=((k.ty==1) && (decide (k.ot≤s.ot) && (decide (s.ot+s.fi≤k.ot+k.fi) && (IntKind.u64.wrap (s.va+k.ot)==IntKind.u64.wrap (k.va+s.ot))))):=by
 obtain ⟨-,-,⟨c0,c1⟩,⟨d0,d1⟩,⟨e0,e1⟩,-,-⟩:=hs;obtain ⟨-,-,⟨i0,i1⟩,⟨j0,j1⟩,⟨k0,k1⟩,-,-⟩:=hk;rw [Bool.eq_iff_iff];simp only [inB,contB,Bool.and_eq_true,beq_iff_eq,decide_eq_true_eq,IntKind.wrap_u64];constructor
 ·rintro ⟨a,⟨b1,b2,b3⟩,c⟩;have:=h2 a;exact ⟨a,b1,by omega,by omega⟩
 ·rintro ⟨a,b1,b2,c⟩;have:=h2 a;exact ⟨a,⟨b1,by omega,by omega⟩,by omega⟩
theorem rcheck1_any (B:Nat) (a:Option Addr) (len cap:Nat) (L:List Sg) (size:Int) (w:World) (hs:Sgs w B a len L) (hB:B≤w.heap.size) (hcap:len≤cap) (hcm:(cap:Int)≤9223372036854775807) (z0:0≤size) (z1:size≤18446744073709551615) :
 Calls Tryz.prog 62 #[.slice a len cap,.int .u64 size] w fun e w'=>e=.returned (.int .i64 (checkS L size))∧Below w.heap.size w w':=by
 obtain ⟨r,hr⟩:∃r,checkS L size=r:=⟨_,rfl⟩
 rw [hr];have HR:=Lib.hid hr;have HS:=Lib.hid hs;clear hr hs;go_enter Tryz.func62,Tryz.ntmps62
 go_wp2;go_loopw [5,6,7] (fun i _ _ wr=>∃k:Nat,k≤len∧i=.int .i64 k∧(∀j,j<k→at1 L size j=0)∧Below w.heap.size w wr) (fun i _ _ _=>len-(intOf i).toNat)
 case atStart=>exact ⟨0,Nat.zero_le _,rfl,fun j hj=>absurd hj (by omega),Below.refl _ _⟩
 case round=>
  obtain ⟨k,hk,rfl,hno,hbel⟩:=hrel;by_cases hlt:k<len
  ·obtain ⟨b,off,rfl,hbB,hcell⟩:=HS.out.hc (by omega);have hsev:=(hcell k hlt).below (hbel.mono hB) hbB;have hok:=HS.out.okAt hlt;have hLl:=HS.out.hl;have hbw:b<w.heap.size:=by omega
   have HA:=Lib.hid (at1_alone (L:=L) (size:=size) (k:=k));have HL:=Lib.hid (at1_load (L:=L) (size:=size) (k:=k));have HO:=Lib.hid (at1_one (L:=L) (size:=size) (k:=k));have HE:=Lib.hid (at1_rest (L:=L) (size:=size) (k:=k));have HNO:=Lib.hid (upto_succ hno);have HRE:=Lib.hid (chk_at1' HR.out hno (by omega));have HALL:Hid (∀m,m<k→Alone0 (L.getD m sg0) size):=Lib.hid (fun m hm=>alone0 (step1_alone (hno m hm)));have HCELL:Hid (∀w1,Below w.heap.size w w1→∀i,i<len→Sev w1 b (off+i*7) (L.getD i sg0)):=Lib.hid (fun w1 h1 i hi=>(hcell i hi).below (h1.mono hB) hbB);have HOKS:Hid (∀i,i<len→(L.getD i sg0).Ok):=Lib.hid (fun i hi=>HS.out.okAt hi);have HK7:Hid (∀w1,Below w.heap.size w w1→Sev w1 b (off+k*7) (L.getD k sg0)):=Lib.hid (fun w1 h1=>HCELL.out w1 h1 k hlt);obtain ⟨s,hsd⟩:∃s,L.getD k sg0=s:=⟨_,rfl⟩
   rw [hsd] at hsev hok HA HL HO HE HK7;have HF0:Hid (¬firstS s<0):=Lib.hid (by have:=hok.va;unfold firstS;omega);have HCA:=Lib.hid (fun w1=>ralone_any s size w1 hok z0 z1);have HFI:=Lib.hid (fun w1=>first_any s w1 hok);have HB2:=Lib.hid hbel;have hbs:=hbel.size;clear hcell hsd hno hbel hok;obtain ⟨c0,c1,c2,c3,c4,c5,c6⟩:=hsev;obtain ⟨e,he⟩:∃e,aloneS s size=e:=⟨_,rfl⟩
   rw [he] at HA HCA HL HO HE;by_cases he0:e=0
   ·subst he0;clear he HA;obtain ⟨ty,fl,ot,va,fi,me,al⟩:=s;simp only at c0 c1 c2 c3 c4 c5 c6;unfold Sg.val at *;simp only at HCA HFI;go_wp2_with fail;refine (HCA.out _).mono ?_;rintro e w2 ⟨rfl,hb2⟩;have HB3:=Lib.hid (HB2.out.trans (hb2.mono HB2.out.size));clear hb2 HCA c0 c1 c2 c3 c4 c5 c6;by_cases h1:ty=1
    ·subst h1;go_wp2;go_loopw [7] (fun i wx=>∃(n:Nat) (z:Int),n≤k∧z=n-1∧i=.int .i64 z∧(∀j,n≤j→j<k→(L.getD j sg0).ty≠1)∧Below w.heap.size w wx) (fun i _=>(intOf i+1).toNat)
     case atStart=>exact ⟨k,k-1,Nat.le_refl _,rfl,by go_num,fun j h1 h2=>absurd h1 (by omega),HB3.out⟩
     case round=>
      as_aux_lemma=>
      obtain ⟨n,z,hn,hz,rfl,hnl,hbx⟩:=hrel;rcases n with _ | m
      ·obtain rfl:z=-1:=by omega
       clear hz;have hle:=lastEnd_none (L:=L) (k:=k) (by omega) (fun j hj=>hnl j (by omega) hj);have hll:=HL.out (by trivial) (by trivial);rw [hle,if_neg (by have:=HF0.out;omega)] at hll;have hn2:=Lib.hid (HNO.out hll);have HB4:=Lib.hid hbx;clear hle hll hnl hbx;go_wp2;go_roundw
       case rel=>exact ⟨k+1,by omega,by go_num,hn2.out,HB4.out⟩
       case measure=>(simp [intOf]<;>omega)
      ·obtain rfl:z=(m:Int):=by omega
       clear hz;have hmk:m<k:=by omega
       have hml:m<len:=by omega
       have ht:=HCELL.out _ hbx m hml;have hs2:=HK7.out _ hbx;have hal:=HALL.out m hmk;have hokt:=HOKS.out m hml;have HMORE:=Lib.hid (down_more (P:=fun j=>(L.getD j sg0).ty≠1) hnl);have HLE:=Lib.hid (fun h=>lastEnd_of (L:=L) (m:=m) h hmk (by omega) hnl);have HTW:Hid (∀w1,Below w.heap.size w w1→Sev w1 b (off+m*7) (L.getD m sg0)):=Lib.hid (fun w1 h1=>HCELL.out w1 h1 m hml);obtain ⟨t,htd⟩:∃t,L.getD m sg0=t:=⟨_,rfl⟩
       rw [htd] at ht hal hokt HMORE HLE HTW;have HBH:=Lib.hid (fun h w1=>behind_ok t w1 hokt h);have HVA:=Lib.hid hal.va;have HB4:=Lib.hid hbx;clear hnl hbx htd hal hokt;obtain ⟨x0,x1,x2,x3,x4,x5,x6⟩:=hs2;obtain ⟨u0,u1,u2,u3,u4,u5,u6⟩:=ht;obtain ⟨ty2,fl2,ot2,va2,fi2,me2,al2⟩:=t;simp only at x0 x1 x2 x3 x4 x5 x6 u0 u1 u2 u3 u4 u5 u6;by_cases ht1:ty2=1
       ·subst ht1;have hll:=HL.out (by trivial) (by trivial);rw [HLE.out (by trivial)] at hll;have HBH2:=Lib.hid (HBH.out (HVA.out (by show (1:Int)≠0;decide)));generalize firstS ⟨1,fl,ot,va,fi,me,al⟩=fs at hll HFI;generalize behindS ⟨1,fl2,ot2,va2,fi2,me2,al2⟩=bh at hll HBH2;have HSS:Hid (∀w1,Below w.heap.size wr.drew w1→Sev w1 b (off+k*7) ⟨1,fl,ot,va,fi,me,al⟩):=Lib.hid (fun w1 h1=>HK7.out w1 (HB4.out.drew.trans h1));have HTT:Hid (∀w1,Below w.heap.size wr.drew w1→Sev w1 b (off+m*7) ⟨1,fl2,ot2,va2,fi2,me2,al2⟩):=Lib.hid (fun w1 h1=>HTW.out w1 (HB4.out.drew.trans h1));have HSZ:Hid (∀w1,Below w.heap.size wr.drew w1→w.heap.size≤w1.heap.size):=Lib.hid (fun w1 h1=>(HB4.out.drew.trans h1).size);clear HBH HVA HMORE HLE HTW;go_wp2;refine wp_region_vals (by kernel_rfl) w.heap.size 189 rfl [46,47,48,49,50,51,52,53,54,55,56] [.slice (some ⟨b,off,none⟩) len cap,.int .i64 k,.pointer (some ⟨b,off+k*7,none⟩),.agg #[.int .u32 1,.int .u32 fl,.int .u64 ot,.int .u64 va,.int .u64 fi,.int .u64 me,.int .u64 al],.int .u64 fs,.slice (some ⟨b,off,none⟩) len cap,.int .i64 m,.pointer (some ⟨b,off+m*7,none⟩),.agg #[.int .u32 1,.int .u32 fl2,.int .u64 ot2,.int .u64 va2,.int .u64 fi2,.int .u64 me2,.int .u64 al2],.int .u64 bh,.bool (decide (fs<bh))] (by kernel_rfl) ?steps11 ?fin11;case steps11=>
         refine ⟨?_,?_,?_,?_,?_,?_,?_,?_,?_,?_,?_,trivial⟩;all_goals intro y w2 hb hy0 hp0
         all_goals have hy:=Lib.hid hy0
         all_goals have hp:=Lib.hid hp0
         all_goals have hb2:=Lib.hid hb
         all_goals clear hy0 hp0 hb
         ·have e1:y 0=.slice (some ⟨b,off,none⟩) len cap:=hy.out 0 (by decide);refine StepG.plain rfl fun K Q hK=>?_;simp only [fr189] at hK⊢;rw [e1] at hK⊢;go_simp;exact hK _ _ ⟨Below.refl _ _,rfl⟩
         ·have e1:y 5=.int .i64 k:=hy.out 5 (by decide);refine StepG.plain rfl fun K Q hK=>?_;simp only [fr189] at hK⊢;rw [e1] at hK⊢;go_simp;exact hK _ _ ⟨Below.refl _ _,rfl⟩
         ·have e1:y 46=.slice (some ⟨b,off,none⟩) len cap:=hp.out 0 (by decide);have e2:y 47=.int .i64 k:=hp.out 1 (by decide);refine StepG.plain rfl fun K Q hK=>?_;simp only [fr189] at hK⊢;rw [e1,e2] at hK⊢;go_simp;exact hK _ _ ⟨Below.refl _ _,rfl⟩
         ·have e1:y 48=.pointer (some ⟨b,off+k*7,none⟩):=hp.out 2 (by decide);obtain ⟨x0,x1,x2,x3,x4,x5,x6⟩:=HSS.out _ hb2.out;simp only at x0 x1 x2 x3 x4 x5 x6;refine StepG.plain rfl fun K Q hK=>?_;simp only [fr189] at hK⊢;rw [e1] at hK⊢;go_simp;exact hK _ _ ⟨Below.refl _ _,rfl⟩
         ·have e1:y 49=.agg #[.int .u32 1,.int .u32 fl,.int .u64 ot,.int .u64 va,.int .u64 fi,.int .u64 me,.int .u64 al]:=hp.out 3 (by decide);refine StepG.plain rfl fun K Q hK=>?_;simp only [fr189] at hK⊢;rw [e1] at hK⊢;go_simp;go_at_call 111
          refine (HFI.out _).mono ?_;rintro r w3 ⟨rfl,hb3⟩;exact hK _ w3 ⟨hb3.mono (HSZ.out _ hb2.out),rfl⟩
         ·have e1:y 0=.slice (some ⟨b,off,none⟩) len cap:=hy.out 0 (by decide);refine StepG.plain rfl fun K Q hK=>?_;simp only [fr189] at hK⊢;rw [e1] at hK⊢;go_simp;exact hK _ _ ⟨Below.refl _ _,rfl⟩
         ·have e1:y 7=.int .i64 m:=hy.out 7 (by decide);refine StepG.plain rfl fun K Q hK=>?_;simp only [fr189] at hK⊢;rw [e1] at hK⊢;go_simp;exact hK _ _ ⟨Below.refl _ _,rfl⟩
         ·have e1:y 51=.slice (some ⟨b,off,none⟩) len cap:=hp.out 5 (by decide);have e2:y 52=.int .i64 m:=hp.out 6 (by decide);refine StepG.plain rfl fun K Q hK=>?_;simp only [fr189] at hK⊢;rw [e1,e2] at hK⊢;go_simp;exact hK _ _ ⟨Below.refl _ _,rfl⟩
         ·have e1:y 53=.pointer (some ⟨b,off+m*7,none⟩):=hp.out 7 (by decide);obtain ⟨x0,x1,x2,x3,x4,x5,x6⟩:=HTT.out _ hb2.out;simp only at x0 x1 x2 x3 x4 x5 x6;refine StepG.plain rfl fun K Q hK=>?_;simp only [fr189] at hK⊢;rw [e1] at hK⊢;go_simp;exact hK _ _ ⟨Below.refl _ _,rfl⟩
         ·have e1:y 54=.agg #[.int .u32 1,.int .u32 fl2,.int .u64 ot2,.int .u64 va2,.int .u64 fi2,.int .u64 me2,.int .u64 al2]:=hp.out 8 (by decide);refine StepG.plain rfl fun K Q hK=>?_;simp only [fr189] at hK⊢;rw [e1] at hK⊢;go_simp;go_at_call 112
          refine (HBH2.out _).mono ?_;rintro r w3 ⟨rfl,hb3⟩;exact hK _ w3 ⟨hb3.mono (HSZ.out _ hb2.out),rfl⟩
         ·have e1:y 50=.int .u64 fs:=hp.out 4 (by decide);have e2:y 55=.int .u64 bh:=hp.out 9 (by decide);refine StepG.plain rfl fun K Q hK=>?_;simp only [fr189] at hK⊢;rw [e1,e2] at hK⊢;go_simp;exact hK _ _ ⟨Below.refl _ _,rfl⟩
        case fin11=>
         intro v8 hb8;simp only [putAll,List.set_cons_succ,List.set_cons_zero,Nat.reduceAdd,List.getD_cons_succ,List.getD_cons_zero];have HB8:Hid (Below w.heap.size w v8):=Lib.hid (HB4.out.drew.trans hb8);clear hb8;by_cases hov:fs<bh
         ·rw [if_pos hov] at hll;have hr2:=HRE.out (by rw [hll];decide);rw [hll] at hr2;subst hr2;clear HRE HNO hll;go_wp2;go_ret;exact ⟨rfl,HB8.out⟩
         ·rw [if_neg hov] at hll;have hn2:=Lib.hid (HNO.out hll);clear HRE HNO hll;go_wp2;go_roundw
          case rel=>exact ⟨k+1,by omega,by go_num,hn2.out,HB8.out⟩
          case measure=>(simp [intOf]<;>omega)
       ·have hm2:=Lib.hid (HMORE.out ht1);have g1:(ty2==1)=false:=by simpa using ht1
        have g2:((1:Int)==ty2)=false:=by first | (simp;done) | (simp<;>omega)
        clear HBH HVA HMORE HLE HTW;go_wp2;go_quiet (fail)
        go_wp2;go_roundw
        case rel=>exact ⟨m,m-1,by omega,rfl,by go_num,hm2.out,below_drewN HB4.out _⟩
        case measure=>(simp [intOf]<;>omega)
    ·by_cases h27:ty=2∨ty=7
     ·rcases h27 with rfl | rfl
      ·have HO2:=Lib.hid (HO.out (by trivial) (by simp));clear HL HO HE HFI HF0;go_wp2;go_loopw [7] (fun i wx=>∃(n:Nat) (z:Int),n≤k∧z=n-1∧i=.int .i64 z∧(∀j,n≤j→j<k→(L.getD j sg0).ty≠2)∧Below w.heap.size w wx) (fun i _=>(intOf i+1).toNat)
       case atStart=>exact ⟨k,k-1,Nat.le_refl _,rfl,by go_num,fun j h1 h2=>absurd h1 (by omega),HB3.out⟩
       case round=>
        as_aux_lemma=>
        obtain ⟨n,z,hn,hz,rfl,hnl,hbx⟩:=hrel;rcases n with _ | m
        ·obtain rfl:z=-1:=by omega
         clear hz;have hll:=HO2.out;rw [find_none (p:=kindB 2) (by omega) (fun j hj=>by simpa [kindB] using hnl j (by omega) hj),if_neg (by decide)] at hll;have hn2:=Lib.hid (HNO.out hll);have HB4:=Lib.hid hbx;clear hll hnl hbx;go_wp2;go_roundw
         case rel=>exact ⟨k+1,by omega,by go_num,hn2.out,HB4.out⟩
         case measure=>(simp [intOf]<;>omega)
        ·obtain rfl:z=(m:Int):=by omega
         clear hz;have hmk:m<k:=by omega
         have hml:m<len:=by omega
         have ht:=HCELL.out _ hbx m hml;have hs2:=HK7.out _ hbx;have HMORE:=Lib.hid (down_more (P:=fun j=>(L.getD j sg0).ty≠2) hnl);have HSOME:=Lib.hid (find_some (L:=L) (k:=k) (m:=m) (p:=kindB 2) (by omega) hmk);obtain ⟨t,htd⟩:∃t,L.getD m sg0=t:=⟨_,rfl⟩
         rw [htd] at ht HMORE HSOME;have HB4:=Lib.hid hbx;clear hnl hbx htd;obtain ⟨x0,x1,x2,x3,x4,x5,x6⟩:=hs2;obtain ⟨u0,u1,u2,u3,u4,u5,u6⟩:=ht;obtain ⟨ty2,fl2,ot2,va2,fi2,me2,al2⟩:=t;simp only at x0 x1 x2 x3 x4 x5 x6 u0 u1 u2 u3 u4 u5 u6;by_cases ht1:ty2=2
         ·subst ht1;have hll:=HO2.out;rw [HSOME.out (by simp [kindB]),if_pos rfl] at hll;have hr2:=HRE.out (by rw [hll];decide);rw [hll] at hr2;subst hr2;clear HMORE HSOME HRE HNO hll;go_wp2;go_quiet (fail)
          go_wp2;go_ret;exact ⟨rfl,below_drewN HB4.out _⟩
         ·have hm2:=Lib.hid (HMORE.out ht1);have g2:((2:Int)==ty2)=false:=by first | (simp;done) | (simp<;>omega)
          clear HMORE HSOME;go_wp2;go_quiet (fail)
          go_wp2;go_roundw
          case rel=>exact ⟨m,m-1,by omega,rfl,by go_num,hm2.out,below_drewN HB4.out _⟩
          case measure=>(simp [intOf]<;>omega)
      ·have HO2:=Lib.hid (HO.out (by trivial) (by simp));clear HL HO HE HFI HF0;go_wp2;go_loopw [7] (fun i wx=>∃(n:Nat) (z:Int),n≤k∧z=n-1∧i=.int .i64 z∧(∀j,n≤j→j<k→(L.getD j sg0).ty≠7)∧Below w.heap.size w wx) (fun i _=>(intOf i+1).toNat)
       case atStart=>exact ⟨k,k-1,Nat.le_refl _,rfl,by go_num,fun j h1 h2=>absurd h1 (by omega),HB3.out⟩
       case round=>
        as_aux_lemma=>
        obtain ⟨n,z,hn,hz,rfl,hnl,hbx⟩:=hrel;rcases n with _ | m
        ·obtain rfl:z=-1:=by omega
         clear hz;have hll:=HO2.out;rw [find_none (p:=kindB 7) (by omega) (fun j hj=>by simpa [kindB] using hnl j (by omega) hj),if_neg (by decide)] at hll;have hn2:=Lib.hid (HNO.out hll);have HB4:=Lib.hid hbx;clear hll hnl hbx;go_wp2;go_roundw
         case rel=>exact ⟨k+1,by omega,by go_num,hn2.out,HB4.out⟩
         case measure=>(simp [intOf]<;>omega)
        ·obtain rfl:z=(m:Int):=by omega
         clear hz;have hmk:m<k:=by omega
         have hml:m<len:=by omega
         have ht:=HCELL.out _ hbx m hml;have hs2:=HK7.out _ hbx;have HMORE:=Lib.hid (down_more (P:=fun j=>(L.getD j sg0).ty≠7) hnl);have HSOME:=Lib.hid (find_some (L:=L) (k:=k) (m:=m) (p:=kindB 7) (by omega) hmk);obtain ⟨t,htd⟩:∃t,L.getD m sg0=t:=⟨_,rfl⟩
         rw [htd] at ht HMORE HSOME;have HB4:=Lib.hid hbx;clear hnl hbx htd;obtain ⟨x0,x1,x2,x3,x4,x5,x6⟩:=hs2;obtain ⟨u0,u1,u2,u3,u4,u5,u6⟩:=ht;obtain ⟨ty2,fl2,ot2,va2,fi2,me2,al2⟩:=t;simp only at x0 x1 x2 x3 x4 x5 x6 u0 u1 u2 u3 u4 u5 u6;by_cases ht1:ty2=7
         ·subst ht1;have hll:=HO2.out;rw [HSOME.out (by simp [kindB]),if_pos rfl] at hll;have hr2:=HRE.out (by rw [hll];decide);rw [hll] at hr2;subst hr2;clear HMORE HSOME HRE HNO hll;go_wp2;go_quiet (fail)
          go_wp2;go_ret;exact ⟨rfl,below_drewN HB4.out _⟩
         ·have hm2:=Lib.hid (HMORE.out ht1);have g2:((7:Int)==ty2)=false:=by first | (simp;done) | (simp<;>omega)
          clear HMORE HSOME;go_wp2;go_quiet (fail)
          go_wp2;go_roundw
          case rel=>exact ⟨m,m-1,by omega,rfl,by go_num,hm2.out,below_drewN HB4.out _⟩
          case measure=>(simp [intOf]<;>omega)
     ·have hn2:=Lib.hid (HNO.out (HE.out (by trivial) h1 (fun h=>h27 (.inl h)) (fun h=>h27 (.inr h))));have g1:(ty==1)=false:=by simpa using h1
      have g2:(ty==2)=false:=by first | (simp;done) | (simp<;>omega)
      have g7:(ty==7)=false:=by first | (simp;done) | (simp<;>omega)
      clear HL HO HE HFI HF0 HRE HNO;go_wp2;go_loopw [7] (fun i wx=>∃(n:Nat) (z:Int),n≤k∧z=n-1∧i=.int .i64 z∧Below w.heap.size w wx) (fun i _=>(intOf i+1).toNat)
      case atStart=>exact ⟨k,k-1,Nat.le_refl _,rfl,by go_num,HB3.out⟩
      case round=>
       as_aux_lemma=>
       obtain ⟨n,z,hn,hz,rfl,hbx⟩:=hrel;rcases n with _ | m
       ·obtain rfl:z=-1:=by omega
        have HB4:=Lib.hid hbx;clear hz hbx;go_wp2;go_roundw
        case rel=>exact ⟨k+1,by omega,by go_num,hn2.out,HB4.out⟩
        case measure=>(simp [intOf]<;>omega)
       ·obtain rfl:z=(m:Int):=by omega
        clear hz;have hmk:m<k:=by omega
        have hml:m<len:=by omega
        have ht:=HCELL.out _ hbx m hml;have hs2:=HK7.out _ hbx;have HB4:=Lib.hid hbx;clear hbx;generalize L.getD m sg0=t at ht;obtain ⟨x0,x1,x2,x3,x4,x5,x6⟩:=hs2;obtain ⟨u0,u1,u2,u3,u4,u5,u6⟩:=ht;obtain ⟨ty2,fl2,ot2,va2,fi2,me2,al2⟩:=t;simp only at x0 x1 x2 x3 x4 x5 x6 u0 u1 u2 u3 u4 u5 u6;by_cases ht1:ty=ty2
        ·subst ht1;go_wp2;go_quiet (fail)
         go_wp2;go_roundw
         case rel=>exact ⟨m,m-1,by omega,rfl,by go_num,below_drewN HB4.out _⟩
         case measure=>(simp [intOf]<;>omega)
        ·have g3:(ty==ty2)=false:=by simpa using ht1
         go_wp2;go_quiet (fail)
         go_wp2;go_roundw
         case rel=>exact ⟨m,m-1,by omega,rfl,by go_num,below_drewN HB4.out _⟩
         case measure=>(simp [intOf]<;>omega)
   ·have ha:=HA.out he0;have hr2:=HRE.out (by rw [ha];exact he0);rw [ha] at hr2;subst hr2;have he0':(r != 0)=true:=by simpa using he0
    obtain ⟨ty,fl,ot,va,fi,me,al⟩:=s;simp only at c0 c1 c2 c3 c4 c5 c6;clear HRE HNO HL HO HE HA ha HFI HK7;unfold Sg.val at *;simp only at HCA;go_wp2_with fail;refine (HCA.out _).mono ?_;rintro e w2 ⟨rfl,hb2⟩;have HB3:=Lib.hid (HB2.out.trans (hb2.mono HB2.out.size));clear hb2;go_wp2;go_ret;exact ⟨rfl,HB3.out⟩
  ·obtain rfl:k=len:=by omega
   have hLl:=HS.out.hl;have HALL:Hid (∀m,m<k→Alone0 (L.getD m sg0) size):=Lib.hid (fun m hm=>alone0 (step1_alone (hno m hm)));have hrr:checkS L size=firstErr (at2 L) 0 L.length:=by
    unfold checkS;rw [firstErr_no (fun j _ hj=>hno j (by omega)),if_pos rfl]
   rw [HR.out] at hrr;have HRR:=Lib.hid hrr;have HB2:=Lib.hid hbel;clear hno hrr hbel hlt;go_wp2;go_loopw [8,9,10] (fun i _ _ wr=>∃p:Nat,p≤k∧i=.int .i64 p∧(∀j,j<p→at2 L j=0)∧Below w.heap.size w wr) (fun i _ _ _=>k-(intOf i).toNat)
   case atStart=>exact ⟨0,Nat.zero_le _,rfl,fun j hj=>absurd hj (by omega),HB2.out⟩
   case round=>
    as_aux_lemma=>
    obtain ⟨p,hp,rfl,hno,hbel⟩:=hrel;by_cases hlt:p<k
    ·obtain ⟨b,off,rfl,hbB,hcell⟩:=HS.out.hc (by omega);have hsev:=(hcell p hlt).below (hbel.mono hB) hbB;have HOK:=Lib.hid (HS.out.okAt hlt);have HY:=Lib.hid (at2_yes (L:=L) (k:=p));have HN:=Lib.hid (at2_no (L:=L) (k:=p));have HNO:=Lib.hid (upto_succ hno);have HAP:=Lib.hid (HALL.out p hlt);have HRE:Hid (at2 L p≠0→r=at2 L p):=Lib.hid (fun h=>by
      rw [HRR.out];exact firstErr_at (fun j _ hj=>hno j hj) (Nat.zero_le _) (by omega) h)
     have HCELL:Hid (∀w1,Below w.heap.size w w1→∀i,i<k→Sev w1 b (off+i*7) (L.getD i sg0)):=Lib.hid (fun w1 h1 i hi=>(hcell i hi).below (h1.mono hB) hbB);have HP7:Hid (∀w1,Below w.heap.size w w1→Sev w1 b (off+p*7) (L.getD p sg0)):=Lib.hid (fun w1 h1=>HCELL.out w1 h1 p hlt);obtain ⟨s,hsd⟩:∃s,L.getD p sg0=s:=⟨_,rfl⟩
     rw [hsd] at hsev HOK HY HN HAP HP7;have HB3:=Lib.hid hbel;clear hcell hsd hno hbel;obtain ⟨c0,c1,c2,c3,c4,c5,c6⟩:=hsev;obtain ⟨ty,fl,ot,va,fi,me,al⟩:=s;simp only at c0 c1 c2 c3 c4 c5 c6;by_cases hk7:ty=2∨ty=7
     ·by_cases hfi:fi=0
      ·have hn:=Lib.hid (HNO.out (HN.out (.inr hfi)));subst hfi;rcases hk7 with rfl | rfl
       all_goals
        clear HY HN HNO HRE;go_wp2;go_roundw
        case rel=>exact ⟨p+1,by omega,by go_num,hn.out,HB3.out⟩
        case measure=>(simp [intOf]<;>omega)
      ·have hy:=HY.out hk7 hfi;rw [←any_find] at hy;have HYY:=Lib.hid hy;have hf0:(fi==0)=false:=by simpa using hfi
       have hne0:ty≠0:=by omega
       have HOT:=Lib.hid (HAP.out.ot hne0);have hov:=HOK.out.ot;have hofi:=HOK.out.fi;have hova:=HOK.out.va;simp only at hov hofi hova;have hsum1:ot+fi≤18446744073709551615:=by have:=HOT.out;simp only at this;omega
       have hwrap1:IntKind.u64.wrap (ot+fi)=ot+fi:=by rw [IntKind.wrap_u64];omega
       clear hy HY HN;rcases hk7 with rfl | rfl
       ·have HIN:Hid (∀m,m<k→inB ⟨2,fl,ot,va,fi,me,al⟩ (L.getD m sg0)=(((L.getD m sg0).ty==1) && (decide ((L.getD m sg0).ot≤ot) && (decide (ot+fi≤(L.getD m sg0).ot+(L.getD m sg0).fi) && (IntKind.u64.wrap (va+(L.getD m sg0).ot)==IntKind.u64.wrap ((L.getD m sg0).va+ot)))))):=Lib.hid (fun m hm=>
         in_ref HOK.out (HS.out.okAt hm) z1 HOT.out (fun h=>(HALL.out m hm).ot (by omega)))
        go_wp2;go_loopw [9,10] (fun v i wx=>∃m:Nat,m≤k∧i=.int .i64 m∧v=.bool ((L.take m).any (inB ⟨2,fl,ot,va,fi,me,al⟩))∧Below w.heap.size w wx) (fun _ i _=>k-(intOf i).toNat)
        case atStart=>exact ⟨0,Nat.zero_le _,rfl,rfl,HB3.out⟩
        case round=>
         as_aux_lemma=>
         obtain ⟨m,hm,rfl,rfl,hbx⟩:=hrel;by_cases hml:m<k
         ·have ht:=HCELL.out _ hbx m hml;have hs2:=HP7.out _ hbx;have hin:=HIN.out m hml;have hokt:=(HS.out.okAt hml)
          have halt:=HALL.out m hml;have hany:(L.take (m+1)).any (inB ⟨2,fl,ot,va,fi,me,al⟩)=((L.take m).any (inB ⟨2,fl,ot,va,fi,me,al⟩) || inB ⟨2,fl,ot,va,fi,me,al⟩ (L.getD m sg0)):=by
           rw [take_snoc (by omega),List.any_append];simp
          rw [hin] at hany;generalize (L.take m).any (inB ⟨2,fl,ot,va,fi,me,al⟩)=q at hany⊢;have HANY:=Lib.hid hany;have HB4:=Lib.hid hbx;clear hany hin hbx;generalize L.getD m sg0=t at ht hokt halt HANY;obtain ⟨x0,x1,x2,x3,x4,x5,x6⟩:=hs2;obtain ⟨u0,u1,u2,u3,u4,u5,u6⟩:=ht;obtain ⟨-,-,⟨i0,i1⟩,⟨j0,j1⟩,⟨k0,k1⟩,-,-⟩:=hokt;obtain ⟨ty2,fl2,ot2,va2,fi2,me2,al2⟩:=t;simp only at x0 x1 x2 x3 x4 x5 x6 u0 u1 u2 u3 u4 u5 u6 i0 i1 j0 j1 k0 k1;have HO2:=Lib.hid halt.ot;simp only at HANY HO2;clear halt;by_cases t1:ty2=1
          ·have hsum2:ot2+fi2≤18446744073709551615:=by have:=HO2.out (by omega);omega
           have hwrap2:IntKind.u64.wrap (ot2+fi2)=ot2+fi2:=by rw [IntKind.wrap_u64];omega
           by_cases t2:ot2≤ot
           ·by_cases t3:ot+fi≤ot2+fi2
            ·by_cases t4:IntKind.u64.wrap (va+ot2)=IntKind.u64.wrap (va2+ot)
             ·have hv:(L.take (m+1)).any _=true:=HANY.out.trans (by simp [t1,t2,t3,t4]);have HV:=Lib.hid hv;clear hv;go_wp2;go_quiet (fail)
              go_wp2;go_roundw
              case rel=>exact ⟨m+1,by omega,by go_num,by rw [HV.out],below_drewN HB4.out _⟩
              case measure=>(simp [intOf]<;>omega)
             ·have hv:(L.take (m+1)).any _=q:=HANY.out.trans (by simp [t1,t2,t3,t4]);have HV:=Lib.hid hv;have t4':(IntKind.u64.wrap (va+ot2)==IntKind.u64.wrap (va2+ot))=false:=by simpa using t4
              clear hv t4;go_wp2;go_quiet (fail)
              go_wp2;go_roundw
              case rel=>exact ⟨m+1,by omega,by go_num,by rw [HV.out],below_drewN HB4.out _⟩
              case measure=>(simp [intOf]<;>omega)
            ·have t3d:decide (ot+fi≤ot2+fi2)=false:=by simpa using t3
             have hv:(L.take (m+1)).any _=q:=HANY.out.trans (by simp [t1,t2,t3]);have HV:=Lib.hid hv;clear hv;go_wp2;go_quiet (fail)
             go_wp2;go_roundw
             case rel=>exact ⟨m+1,by omega,by go_num,by rw [HV.out],below_drewN HB4.out _⟩
             case measure=>(simp [intOf]<;>omega)
           ·have t2d:decide (ot2≤ot)=false:=by simpa using t2
            have hv:(L.take (m+1)).any _=q:=HANY.out.trans (by simp [t1,t2]);have HV:=Lib.hid hv;clear hv;go_wp2;go_quiet (fail)
            go_wp2;go_roundw
            case rel=>exact ⟨m+1,by omega,by go_num,by rw [HV.out],below_drewN HB4.out _⟩
            case measure=>(simp [intOf]<;>omega)
          ·have t1':(ty2==1)=false:=by simpa using t1
           have hv:(L.take (m+1)).any _=q:=HANY.out.trans (by simp [t1]);have HV:=Lib.hid hv;clear hv;go_wp2;go_quiet (fail)
           go_wp2;go_roundw
           case rel=>exact ⟨m+1,by omega,by go_num,by rw [HV.out],below_drewN HB4.out _⟩
           case measure=>(simp [intOf]<;>omega)
         ·obtain rfl:m=k:=by omega
          have htk:L.take m=L:=List.take_of_length_le (by omega);rw [htk];have hy:=HYY.out;have HB4:=Lib.hid hbx;clear hbx htk;obtain ⟨q,hq⟩:∃q,L.any (inB ⟨2,fl,ot,va,fi,me,al⟩)=q:=⟨_,rfl⟩
          rw [hq] at hy⊢;clear hq;cases q with
          | true=>
            rw [if_pos rfl] at hy;have hn:=Lib.hid (HNO.out hy);clear hy HNO HRE;go_wp2;go_roundw
            case rel=>exact ⟨p+1,by omega,by go_num,hn.out,HB4.out⟩
            case measure=>(simp [intOf]<;>omega)
          | false=>
            rw [if_neg (by decide)] at hy;have hr2:=HRE.out (by rw [hy];decide);rw [hy] at hr2;subst hr2;clear hy HNO HRE;go_wp2;go_ret;exact ⟨rfl,HB4.out⟩
       ·have HIN:Hid (∀m,m<k→inB ⟨7,fl,ot,va,fi,me,al⟩ (L.getD m sg0)=(((L.getD m sg0).ty==1) && (decide ((L.getD m sg0).ot≤ot) && (decide (ot+fi≤(L.getD m sg0).ot+(L.getD m sg0).fi) && (IntKind.u64.wrap (va+(L.getD m sg0).ot)==IntKind.u64.wrap ((L.getD m sg0).va+ot)))))):=Lib.hid (fun m hm=>
         in_ref HOK.out (HS.out.okAt hm) z1 HOT.out (fun h=>(HALL.out m hm).ot (by omega)))
        go_wp2;go_loopw [9,10] (fun v i wx=>∃m:Nat,m≤k∧i=.int .i64 m∧v=.bool ((L.take m).any (inB ⟨7,fl,ot,va,fi,me,al⟩))∧Below w.heap.size w wx) (fun _ i _=>k-(intOf i).toNat)
        case atStart=>exact ⟨0,Nat.zero_le _,rfl,rfl,HB3.out⟩
        case round=>
         as_aux_lemma=>
         obtain ⟨m,hm,rfl,rfl,hbx⟩:=hrel;by_cases hml:m<k
         ·have ht:=HCELL.out _ hbx m hml;have hs2:=HP7.out _ hbx;have hin:=HIN.out m hml;have hokt:=(HS.out.okAt hml)
          have halt:=HALL.out m hml;have hany:(L.take (m+1)).any (inB ⟨7,fl,ot,va,fi,me,al⟩)=((L.take m).any (inB ⟨7,fl,ot,va,fi,me,al⟩) || inB ⟨7,fl,ot,va,fi,me,al⟩ (L.getD m sg0)):=by
           rw [take_snoc (by omega),List.any_append];simp
          rw [hin] at hany;generalize (L.take m).any (inB ⟨7,fl,ot,va,fi,me,al⟩)=q at hany⊢;have HANY:=Lib.hid hany;have HB4:=Lib.hid hbx;clear hany hin hbx;generalize L.getD m sg0=t at ht hokt halt HANY;obtain ⟨x0,x1,x2,x3,x4,x5,x6⟩:=hs2;obtain ⟨u0,u1,u2,u3,u4,u5,u6⟩:=ht;obtain ⟨-,-,⟨i0,i1⟩,⟨j0,j1⟩,⟨k0,k1⟩,-,-⟩:=hokt;obtain ⟨ty2,fl2,ot2,va2,fi2,me2,al2⟩:=t;simp only at x0 x1 x2 x3 x4 x5 x6 u0 u1 u2 u3 u4 u5 u6 i0 i1 j0 j1 k0 k1;have HO2:=Lib.hid halt.ot;simp only at HANY HO2;clear halt;by_cases t1:ty2=1
          ·have hsum2:ot2+fi2≤18446744073709551615:=by have:=HO2.out (by omega);omega
           have hwrap2:IntKind.u64.wrap (ot2+fi2)=ot2+fi2:=by rw [IntKind.wrap_u64];omega
           by_cases t2:ot2≤ot
           ·by_cases t3:ot+fi≤ot2+fi2
            ·by_cases t4:IntKind.u64.wrap (va+ot2)=IntKind.u64.wrap (va2+ot)
             ·have hv:(L.take (m+1)).any _=true:=HANY.out.trans (by simp [t1,t2,t3,t4]);have HV:=Lib.hid hv;clear hv;go_wp2;go_quiet (fail)
              go_wp2;go_roundw
              case rel=>exact ⟨m+1,by omega,by go_num,by rw [HV.out],below_drewN HB4.out _⟩
              case measure=>(simp [intOf]<;>omega)
             ·have hv:(L.take (m+1)).any _=q:=HANY.out.trans (by simp [t1,t2,t3,t4]);have HV:=Lib.hid hv;have t4':(IntKind.u64.wrap (va+ot2)==IntKind.u64.wrap (va2+ot))=false:=by simpa using t4
              clear hv t4;go_wp2;go_quiet (fail)
              go_wp2;go_roundw
              case rel=>exact ⟨m+1,by omega,by go_num,by rw [HV.out],below_drewN HB4.out _⟩
              case measure=>(simp [intOf]<;>omega)
            ·have t3d:decide (ot+fi≤ot2+fi2)=false:=by simpa using t3
             have hv:(L.take (m+1)).any _=q:=HANY.out.trans (by simp [t1,t2,t3]);have HV:=Lib.hid hv;clear hv;go_wp2;go_quiet (fail)
             go_wp2;go_roundw
             case rel=>exact ⟨m+1,by omega,by go_num,by rw [HV.out],below_drewN HB4.out _⟩
             case measure=>(simp [intOf]<;>omega)
           ·have t2d:decide (ot2≤ot)=false:=by simpa using t2
            have hv:(L.take (m+1)).any _=q:=HANY.out.trans (by simp [t1,t2]);have HV:=Lib.hid hv;clear hv;go_wp2;go_quiet (fail)
            go_wp2;go_roundw
            case rel=>exact ⟨m+1,by omega,by go_num,by rw [HV.out],below_drewN HB4.out _⟩
            case measure=>(simp [intOf]<;>omega)
          ·have t1':(ty2==1)=false:=by simpa using t1
           have hv:(L.take (m+1)).any _=q:=HANY.out.trans (by simp [t1]);have HV:=Lib.hid hv;clear hv;go_wp2;go_quiet (fail)
           go_wp2;go_roundw
           case rel=>exact ⟨m+1,by omega,by go_num,by rw [HV.out],below_drewN HB4.out _⟩
           case measure=>(simp [intOf]<;>omega)
         ·obtain rfl:m=k:=by omega
          have htk:L.take m=L:=List.take_of_length_le (by omega);rw [htk];have hy:=HYY.out;have HB4:=Lib.hid hbx;clear hbx htk;obtain ⟨q,hq⟩:∃q,L.any (inB ⟨7,fl,ot,va,fi,me,al⟩)=q:=⟨_,rfl⟩
          rw [hq] at hy⊢;clear hq;cases q with
          | true=>
            rw [if_pos rfl] at hy;have hn:=Lib.hid (HNO.out hy);clear hy HNO HRE;go_wp2;go_roundw
            case rel=>exact ⟨p+1,by omega,by go_num,hn.out,HB4.out⟩
            case measure=>(simp [intOf]<;>omega)
          | false=>
            rw [if_neg (by decide)] at hy;have hr2:=HRE.out (by rw [hy];decide);rw [hy] at hr2;subst hr2;clear hy HNO HRE;go_wp2;go_ret;exact ⟨rfl,HB4.out⟩
     ·have hn:=Lib.hid (HNO.out (HN.out (.inl hk7)));have h2:(ty != 2)=true:=by simp;omega
      have h7:(ty != 7)=true:=by simp;omega
      clear HY HN HNO HRE hk7;go_wp2;go_roundw
      case rel=>exact ⟨p+1,by omega,by go_num,hn.out,HB3.out⟩
      case measure=>(simp [intOf]<;>omega)
    ·obtain rfl:p=k:=by omega
     have hr0:r=0:=by
      rw [HRR.out];exact firstErr_no (fun j _ hj=>hno j (by omega))
     subst hr0;have HB3:=Lib.hid hbel;clear hno hbel;go_wp2;go_ret;exact ⟨rfl,HB3.out⟩
end Go.Proofs.YtclgbdfkdbbinaaGreat
