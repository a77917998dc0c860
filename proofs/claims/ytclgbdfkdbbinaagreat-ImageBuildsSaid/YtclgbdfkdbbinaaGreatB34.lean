/-
  What is proved here: words and contracts, a part of those that the statement rests on (B34).
  Conditions: none but that the arguments are values of their types.
-/
import Derived.Test.YtclgbdfkdbbinaaGreatB0
import Derived.Test.YtclgbdfkdbbinaaGreatB33
import Derived.Test.YtclgbdfkdbbinaaGreatB6
import Derived.Test.YtclgbdfkdbbinaaGreatB24
import Derived.Laws.OwnMore
set_option linter.unusedVariables false
set_option linter.unusedSimpArgs false
set_option maxRecDepth 100000
set_option maxHeartbeats 12800000
namespace Go.Proofs.YtclgbdfkdbbinaaGreat
open Go.RowKit
theorem oG (b:Bool):0≤one b∧one b≤1:=by cases b<;>decide
theorem rb_20 (y:Nat→Value) (m:Sp) (hm:aZ m) (w:World) (B:Nat) (hB:B≤w.heap.size) (nda:Option Addr) (ndc:Nat) (coa:Option Addr) (coc:Nat) (daa:Option Addr) (dac:Nat) (tla:Option Addr) (tlc:Nat) (dfa:Option Addr) (dfc:Nat) (fxa:Option Addr) (fxc:Nat) (hx:(⟨m.k,m.so,⟨nda,m.nd.length,ndc⟩,m.en,⟨coa,m.co.length,coc⟩,⟨daa,m.da.length,dac⟩,m.bs,⟨tla,m.tl.length,tlc⟩,m.tb,⟨dfa,m.df.length,dfc⟩,⟨fxa,m.fx.length,fxc⟩⟩:Spv).Is w B m) (hnil:aC (⟨m.k,m.so,⟨nda,m.nd.length,ndc⟩,m.en,⟨coa,m.co.length,coc⟩,⟨daa,m.da.length,dac⟩,m.bs,⟨tla,m.tl.length,tlc⟩,m.tb,⟨dfa,m.df.length,dfc⟩,⟨fxa,m.fx.length,fxc⟩⟩:Spv)) (Z:Int×List Int) (hZ:Z=if 65536<(au m).length then (13,[]) else (0,au m)) (wm wz:World) (pb plc pn:Nat) (ta:Option Addr) (tc:Nat) (hR:RdM m wm pb plc ta tc (some ⟨pb,pn,none⟩) (plc-1)) (hpn:pn=if plc=1 then 0 else 0+1) (hw:wm=wz) (hbox:Blk wz w.heap.size #[.int .i64 m.k,.string m.so,.slice nda m.nd.length ndc,.int .u64 m.en,.slice coa m.co.length coc,.slice daa m.da.length dac,.int .u64 m.bs,.slice tla m.tl.length tlc,.int .u64 m.tb,.slice dfa m.df.length dfc,.slice fxa m.fx.length fxc] 55) (hbw:Below w.heap.size w wz) (h1:y 1=.pointer (some ⟨w.heap.size,0,none⟩)) (h7:y 7=.slice ta (aA m).length tc) (h8:y 8=.slice (some ⟨pb,0,none⟩) (1+m.nd.length+m.df.length) plc) (h10:y 10=.int .i64 m.nd.length) (h11:y 11=.int .i64 (2+one (dv m)+one (bM m))) (h12:y 12=.bool (bM m)) :
 Code.wp Tryz.prog (aq 20 (Tryz.f16.body.getD .skip)) (bodyPost Tryz.prog Tryz.f16 (ah Z w)) ⟨af 479 y,[]⟩ wz:=by
 rw [bY,h1,h7,h8,h10,h11,h12];clear h1 h7 h8 h10 h11 h12;conv=>arg 2;whnf
 have HAFX:Hid (∀(x:List Value),x.length=479→x.getD 1 undef=.pointer (some ⟨w.heap.size,0,none⟩)→x.getD 7 undef=.slice ta (aA m).length tc→x.getD 8 undef=.slice (some ⟨pb,0,none⟩) (1+m.nd.length+m.df.length) plc→x.getD 10 undef=.int .i64 m.nd.length→x.getD 11 undef=.int .i64 (aF m)→x.getD 12 undef=.bool (bM m)→x.getD 13 undef=.bool (bR m)→Code.wp Tryz.prog (aq 23 (Tryz.f16.body.getD .skip)) (bodyPost Tryz.prog Tryz.f16 (ah Z w)) ⟨x.toArray,[]⟩ wz):=hZz (fun x hxl h1 h7 h8 h10 h11 h12 h13=>wQ x hxl m hm w B hB nda ndc coa coc daa dac tla tlc dfa dfc fxa fxc hx hnil Z hZ wm wz pb plc pn ta tc hR hpn hw hbox hbw h1 h7 h8 h10 h11 h12 h13);obtain ⟨oc,hoc⟩:∃q,one (dv m)=q:=⟨_,rfl⟩
 obtain ⟨od,hod⟩:∃q,one (bM m)=q:=⟨_,rfl⟩
 obtain ⟨oc0,oc1⟩:0≤oc∧oc≤1:=by rw [←hoc];exact oG _
 obtain ⟨od0,od1⟩:0≤od∧od≤1:=by rw [←hod];exact oG _
 have s7:wz.cell? ⟨w.heap.size,7,none⟩=some (.slice tla m.tl.length tlc):=hbox.cell 7;have s8:wz.cell? ⟨w.heap.size,8,none⟩=some (.int .u64 m.tb):=hbox.cell 8;obtain ⟨htb0,-⟩:=hm.tb;rw [hoc,hod];clear hZ hnil hR hx hbox hbw hpn hw;by_cases ht:0<m.tl.length
 ·have hti:(0:Int)<m.tl.length:=by omega
  have HT:bR m=true:=by unfold bR;exact decide_eq_true (.inl ht)
  have HC:aF m=2+oc+od+1:=by unfold aF;rw [hoc,hod,HT];rfl
  rw [HT,HC] at HAFX;clear HT HC hoc hod;go_upto_if 107 with fail
  rename_i K1 hK1;have HK1:=hZz hK1;clear hK1;go_wp2_with fail;exact HK1.out _ _ (HAFX.out _ rfl rfl rfl rfl rfl rfl rfl rfl)
 ·have hti:(m.tl.length:Int)≤0:=by omega
  by_cases hb:0<m.tb
  ·have hbi:0<m.tb:=hb;have HT:bR m=true:=by unfold bR;exact decide_eq_true (.inr hb)
   have HC:aF m=2+oc+od+1:=by unfold aF;rw [hoc,hod,HT];rfl
   rw [HT,HC] at HAFX;clear HT HC hoc hod;go_upto_if 107 with fail
   rename_i K1 hK1;have HK1:=hZz hK1;clear hK1;go_wp2_with fail;exact HK1.out _ _ (HAFX.out _ rfl rfl rfl rfl rfl rfl rfl rfl)
  ·have hbi:m.tb≤0:=by omega
   have HT:bR m=false:=by unfold bR;exact decide_eq_false (by rintro (e | e);exact ht e;exact hb e)
   have HC:aF m=2+oc+od+0:=by unfold aF;rw [hoc,hod,HT];rfl
   rw [HT,HC] at HAFX;clear HT HC hoc hod;go_upto_if 107 with fail
   rename_i K1 hK1;have HK1:=hZz hK1;clear hK1;go_wp2_with fail;exact HK1.out _ _ (HAFX.out _ rfl rfl rfl rfl rfl (by rw [Int.add_zero];rfl) rfl rfl)
theorem wI (x:List Value) (hxl:x.length=479) (m:Sp) (hm:aZ m) (w:World) (B:Nat) (hB:B≤w.heap.size) (nda:Option Addr) (ndc:Nat) (coa:Option Addr) (coc:Nat) (daa:Option Addr) (dac:Nat) (tla:Option Addr) (tlc:Nat) (dfa:Option Addr) (dfc:Nat) (fxa:Option Addr) (fxc:Nat) (hx:(⟨m.k,m.so,⟨nda,m.nd.length,ndc⟩,m.en,⟨coa,m.co.length,coc⟩,⟨daa,m.da.length,dac⟩,m.bs,⟨tla,m.tl.length,tlc⟩,m.tb,⟨dfa,m.df.length,dfc⟩,⟨fxa,m.fx.length,fxc⟩⟩:Spv).Is w B m) (hnil:aC (⟨m.k,m.so,⟨nda,m.nd.length,ndc⟩,m.en,⟨coa,m.co.length,coc⟩,⟨daa,m.da.length,dac⟩,m.bs,⟨tla,m.tl.length,tlc⟩,m.tb,⟨dfa,m.df.length,dfc⟩,⟨fxa,m.fx.length,fxc⟩⟩:Spv)) (Z:Int×List Int) (hZ:Z=if 65536<(au m).length then (13,[]) else (0,au m)) (wm wz:World) (pb plc pn:Nat) (ta:Option Addr) (tc:Nat) (hR:RdM m wm pb plc ta tc (some ⟨pb,pn,none⟩) (plc-1)) (hpn:pn=if plc=1 then 0 else 0+1) (hw:wm=wz) (hbox:Blk wz w.heap.size #[.int .i64 m.k,.string m.so,.slice nda m.nd.length ndc,.int .u64 m.en,.slice coa m.co.length coc,.slice daa m.da.length dac,.int .u64 m.bs,.slice tla m.tl.length tlc,.int .u64 m.tb,.slice dfa m.df.length dfc,.slice fxa m.fx.length fxc] 55) (hbw:Below w.heap.size w wz) (h1:x.getD 1 undef=.pointer (some ⟨w.heap.size,0,none⟩)) (h7:x.getD 7 undef=.slice ta (aA m).length tc) (h8:x.getD 8 undef=.slice (some ⟨pb,0,none⟩) (1+m.nd.length+m.df.length) plc) (h10:x.getD 10 undef=.int .i64 m.nd.length) (h11:x.getD 11 undef=.int .i64 (2+one (dv m)+one (bM m))) (h12:x.getD 12 undef=.bool (bM m)) :
 Code.wp Tryz.prog (aq 20 (Tryz.f16.body.getD .skip)) (bodyPost Tryz.prog Tryz.f16 (ah Z w)) ⟨x.toArray,[]⟩ wz:=by
 rw [ap x,hxl];exact rb_20 (fun t=>x.getD t undef) m hm w B hB nda ndc coa coc daa dac tla tlc dfa dfc fxa fxc hx hnil Z hZ wm wz pb plc pn ta tc hR hpn hw hbox hbw h1 h7 h8 h10 h11 h12
theorem rb_17 (y:Nat→Value) (m:Sp) (hm:aZ m) (w:World) (B:Nat) (hB:B≤w.heap.size) (nda:Option Addr) (ndc:Nat) (coa:Option Addr) (coc:Nat) (daa:Option Addr) (dac:Nat) (tla:Option Addr) (tlc:Nat) (dfa:Option Addr) (dfc:Nat) (fxa:Option Addr) (fxc:Nat) (hx:(⟨m.k,m.so,⟨nda,m.nd.length,ndc⟩,m.en,⟨coa,m.co.length,coc⟩,⟨daa,m.da.length,dac⟩,m.bs,⟨tla,m.tl.length,tlc⟩,m.tb,⟨dfa,m.df.length,dfc⟩,⟨fxa,m.fx.length,fxc⟩⟩:Spv).Is w B m) (hnil:aC (⟨m.k,m.so,⟨nda,m.nd.length,ndc⟩,m.en,⟨coa,m.co.length,coc⟩,⟨daa,m.da.length,dac⟩,m.bs,⟨tla,m.tl.length,tlc⟩,m.tb,⟨dfa,m.df.length,dfc⟩,⟨fxa,m.fx.length,fxc⟩⟩:Spv)) (Z:Int×List Int) (hZ:Z=if 65536<(au m).length then (13,[]) else (0,au m)) (wm wz:World) (pb plc pn:Nat) (ta:Option Addr) (tc:Nat) (hR:RdM m wm pb plc ta tc (some ⟨pb,pn,none⟩) (plc-1)) (hpn:pn=if plc=1 then 0 else 0+1) (hw:wm=wz) (hbox:Blk wz w.heap.size #[.int .i64 m.k,.string m.so,.slice nda m.nd.length ndc,.int .u64 m.en,.slice coa m.co.length coc,.slice daa m.da.length dac,.int .u64 m.bs,.slice tla m.tl.length tlc,.int .u64 m.tb,.slice dfa m.df.length dfc,.slice fxa m.fx.length fxc] 55) (hbw:Below w.heap.size w wz) (h1:y 1=.pointer (some ⟨w.heap.size,0,none⟩)) (h7:y 7=.slice ta (aA m).length tc) (h8:y 8=.slice (some ⟨pb,0,none⟩) (1+m.nd.length+m.df.length) plc) (h10:y 10=.int .i64 m.nd.length) (h11:y 11=.int .i64 (2+one (dv m))) :
 Code.wp Tryz.prog (aq 17 (Tryz.f16.body.getD .skip)) (bodyPost Tryz.prog Tryz.f16 (ah Z w)) ⟨af 479 y,[]⟩ wz:=by
 rw [bY,h1,h7,h8,h10,h11];clear h1 h7 h8 h10 h11;conv=>arg 2;whnf
 have HAFX:Hid (∀(x:List Value),x.length=479→x.getD 1 undef=.pointer (some ⟨w.heap.size,0,none⟩)→x.getD 7 undef=.slice ta (aA m).length tc→x.getD 8 undef=.slice (some ⟨pb,0,none⟩) (1+m.nd.length+m.df.length) plc→x.getD 10 undef=.int .i64 m.nd.length→x.getD 11 undef=.int .i64 (2+one (dv m)+one (bM m))→x.getD 12 undef=.bool (bM m)→Code.wp Tryz.prog (aq 20 (Tryz.f16.body.getD .skip)) (bodyPost Tryz.prog Tryz.f16 (ah Z w)) ⟨x.toArray,[]⟩ wz):=hZz (fun x hxl h1 h7 h8 h10 h11 h12=>wI x hxl m hm w B hB nda ndc coa coc daa dac tla tlc dfa dfc fxa fxc hx hnil Z hZ wm wz pb plc pn ta tc hR hpn hw hbox hbw h1 h7 h8 h10 h11 h12);obtain ⟨oc,hoc⟩:∃q,one (dv m)=q:=⟨_,rfl⟩
 obtain ⟨oc0,oc1⟩:0≤oc∧oc≤1:=by rw [←hoc];exact oG _
 have s5:wz.cell? ⟨w.heap.size,5,none⟩=some (.slice daa m.da.length dac):=hbox.cell 5;have s6:wz.cell? ⟨w.heap.size,6,none⟩=some (.int .u64 m.bs):=hbox.cell 6;have s7:wz.cell? ⟨w.heap.size,7,none⟩=some (.slice tla m.tl.length tlc):=hbox.cell 7;obtain ⟨hbs0,-⟩:=hm.bs;rw [hoc] at HAFX⊢;clear hZ hnil hR hx hbox hbw hpn hw;by_cases hd:0<m.da.length
 ·have hdi:(0:Int)<m.da.length:=by omega
  have HT:bM m=true:=by unfold bM;exact decide_eq_true (.inl hd)
  rw [HT] at HAFX;rw [show one true=1 from rfl] at HAFX;clear HT hoc;go_upto_if 95 with fail
  rename_i K1 hK1;have HK1:=hZz hK1;clear hK1;go_wp2_with fail;exact HK1.out _ _ (HAFX.out _ rfl rfl rfl rfl rfl rfl rfl)
 ·have hdi:(m.da.length:Int)≤0:=by omega
  by_cases ht:0<m.tl.length
  ·have hti:(0:Int)<m.tl.length:=by omega
   have HT:bM m=true:=by unfold bM;exact decide_eq_true (.inr (.inl ht))
   rw [HT] at HAFX;rw [show one true=1 from rfl] at HAFX;clear HT hoc;go_upto_if 95 with fail
   rename_i K1 hK1;have HK1:=hZz hK1;clear hK1;go_wp2_with fail;exact HK1.out _ _ (HAFX.out _ rfl rfl rfl rfl rfl rfl rfl)
  ·have hti:(m.tl.length:Int)≤0:=by omega
   by_cases hb:0<m.bs
   ·have hbi:0<m.bs:=hb;have HT:bM m=true:=by unfold bM;exact decide_eq_true (.inr (.inr hb))
    rw [HT] at HAFX;rw [show one true=1 from rfl] at HAFX;clear HT hoc;go_upto_if 95 with fail
    rename_i K1 hK1;have HK1:=hZz hK1;clear hK1;go_wp2_with fail;exact HK1.out _ _ (HAFX.out _ rfl rfl rfl rfl rfl rfl rfl)
   ·have hbi:m.bs≤0:=by omega
    have HT:bM m=false:=by unfold bM;exact decide_eq_false (by rintro (e | e | e);exact hd e;exact ht e;exact hb e)
    rw [HT] at HAFX;rw [show one false=0 from rfl] at HAFX;clear HT hoc;go_upto_if 95 with fail
    rename_i K1 hK1;have HK1:=hZz hK1;clear hK1;go_wp2_with fail;exact HK1.out _ _ (HAFX.out _ rfl rfl rfl rfl rfl (by rw [Int.add_zero];rfl) rfl)
theorem vO (x:List Value) (hxl:x.length=479) (m:Sp) (hm:aZ m) (w:World) (B:Nat) (hB:B≤w.heap.size) (nda:Option Addr) (ndc:Nat) (coa:Option Addr) (coc:Nat) (daa:Option Addr) (dac:Nat) (tla:Option Addr) (tlc:Nat) (dfa:Option Addr) (dfc:Nat) (fxa:Option Addr) (fxc:Nat) (hx:(⟨m.k,m.so,⟨nda,m.nd.length,ndc⟩,m.en,⟨coa,m.co.length,coc⟩,⟨daa,m.da.length,dac⟩,m.bs,⟨tla,m.tl.length,tlc⟩,m.tb,⟨dfa,m.df.length,dfc⟩,⟨fxa,m.fx.length,fxc⟩⟩:Spv).Is w B m) (hnil:aC (⟨m.k,m.so,⟨nda,m.nd.length,ndc⟩,m.en,⟨coa,m.co.length,coc⟩,⟨daa,m.da.length,dac⟩,m.bs,⟨tla,m.tl.length,tlc⟩,m.tb,⟨dfa,m.df.length,dfc⟩,⟨fxa,m.fx.length,fxc⟩⟩:Spv)) (Z:Int×List Int) (hZ:Z=if 65536<(au m).length then (13,[]) else (0,au m)) (wm wz:World) (pb plc pn:Nat) (ta:Option Addr) (tc:Nat) (hR:RdM m wm pb plc ta tc (some ⟨pb,pn,none⟩) (plc-1)) (hpn:pn=if plc=1 then 0 else 0+1) (hw:wm=wz) (hbox:Blk wz w.heap.size #[.int .i64 m.k,.string m.so,.slice nda m.nd.length ndc,.int .u64 m.en,.slice coa m.co.length coc,.slice daa m.da.length dac,.int .u64 m.bs,.slice tla m.tl.length tlc,.int .u64 m.tb,.slice dfa m.df.length dfc,.slice fxa m.fx.length fxc] 55) (hbw:Below w.heap.size w wz) (h1:x.getD 1 undef=.pointer (some ⟨w.heap.size,0,none⟩)) (h7:x.getD 7 undef=.slice ta (aA m).length tc) (h8:x.getD 8 undef=.slice (some ⟨pb,0,none⟩) (1+m.nd.length+m.df.length) plc) (h10:x.getD 10 undef=.int .i64 m.nd.length) (h11:x.getD 11 undef=.int .i64 (2+one (dv m))) :
 Code.wp Tryz.prog (aq 17 (Tryz.f16.body.getD .skip)) (bodyPost Tryz.prog Tryz.f16 (ah Z w)) ⟨x.toArray,[]⟩ wz:=by
 rw [ap x,hxl];exact rb_17 (fun t=>x.getD t undef) m hm w B hB nda ndc coa coc daa dac tla tlc dfa dfc fxa fxc hx hnil Z hZ wm wz pb plc pn ta tc hR hpn hw hbox hbw h1 h7 h8 h10 h11
theorem rb_13 (y:Nat→Value) (m:Sp) (hm:aZ m) (w:World) (B:Nat) (hB:B≤w.heap.size) (nda:Option Addr) (ndc:Nat) (coa:Option Addr) (coc:Nat) (daa:Option Addr) (dac:Nat) (tla:Option Addr) (tlc:Nat) (dfa:Option Addr) (dfc:Nat) (fxa:Option Addr) (fxc:Nat) (hx:(⟨m.k,m.so,⟨nda,m.nd.length,ndc⟩,m.en,⟨coa,m.co.length,coc⟩,⟨daa,m.da.length,dac⟩,m.bs,⟨tla,m.tl.length,tlc⟩,m.tb,⟨dfa,m.df.length,dfc⟩,⟨fxa,m.fx.length,fxc⟩⟩:Spv).Is w B m) (hnil:aC (⟨m.k,m.so,⟨nda,m.nd.length,ndc⟩,m.en,⟨coa,m.co.length,coc⟩,⟨daa,m.da.length,dac⟩,m.bs,⟨tla,m.tl.length,tlc⟩,m.tb,⟨dfa,m.df.length,dfc⟩,⟨fxa,m.fx.length,fxc⟩⟩:Spv)) (Z:Int×List Int) (hZ:Z=if 65536<(au m).length then (13,[]) else (0,au m)) (wm wz:World) (pb plc pn:Nat) (ta:Option Addr) (tc:Nat) (hR:RdM m wm pb plc ta tc (some ⟨pb,pn,none⟩) (plc-1)) (hpn:pn=if plc=1 then 0 else 0+1) (hw:wm=wz) (hbox:Blk wz w.heap.size #[.int .i64 m.k,.string m.so,.slice nda m.nd.length ndc,.int .u64 m.en,.slice coa m.co.length coc,.slice daa m.da.length dac,.int .u64 m.bs,.slice tla m.tl.length tlc,.int .u64 m.tb,.slice dfa m.df.length dfc,.slice fxa m.fx.length fxc] 55) (hbw:Below w.heap.size w wz) (h1:y 1=.pointer (some ⟨w.heap.size,0,none⟩)) (h7:y 7=.slice ta (aA m).length tc) (h8:y 8=.slice (some ⟨pb,0,none⟩) (1+m.nd.length+m.df.length) plc) :
 Code.wp Tryz.prog (aq 13 (Tryz.f16.body.getD .skip)) (bodyPost Tryz.prog Tryz.f16 (ah Z w)) ⟨af 479 y,[]⟩ wz:=by
 rw [bY,h1,h7,h8];clear h1 h7 h8;conv=>arg 2;whnf
 have HAFX:Hid (∀(x:List Value),x.length=479→x.getD 1 undef=.pointer (some ⟨w.heap.size,0,none⟩)→x.getD 7 undef=.slice ta (aA m).length tc→x.getD 8 undef=.slice (some ⟨pb,0,none⟩) (1+m.nd.length+m.df.length) plc→x.getD 10 undef=.int .i64 m.nd.length→x.getD 11 undef=.int .i64 (2+one (dv m))→Code.wp Tryz.prog (aq 17 (Tryz.f16.body.getD .skip)) (bodyPost Tryz.prog Tryz.f16 (ah Z w)) ⟨x.toArray,[]⟩ wz):=hZz (fun x hxl h1 h7 h8 h10 h11=>vO x hxl m hm w B hB nda ndc coa coc daa dac tla tlc dfa dfc fxa fxc hx hnil Z hZ wm wz pb plc pn ta tc hR hpn hw hbox hbw h1 h7 h8 h10 h11);have s2:wz.cell? ⟨w.heap.size,2,none⟩=some (.slice nda m.nd.length ndc):=hbox.cell 2;have s4:wz.cell? ⟨w.heap.size,4,none⟩=some (.slice coa m.co.length coc):=hbox.cell 4;clear hZ hnil hR hx hbox hbw hpn hw;go_upto_if 77 with fail
 rename_i K1 hK1;have HK1:=hZz hK1;clear hK1;by_cases hc:0<m.co.length
 ·have HT:dv m=true:=by unfold dv;exact decide_eq_true hc
  rw [HT,show one true=1 from rfl] at HAFX;rw [decide_eq_true hc];clear HT hc;go_wp2_with fail;exact HK1.out _ _ (HAFX.out _ rfl rfl rfl rfl rfl rfl)
 ·have HT:dv m=false:=by unfold dv;exact decide_eq_false hc
  rw [HT,show one false=0 from rfl] at HAFX;rw [decide_eq_false hc];clear HT hc;go_wp2_with fail;exact HK1.out _ _ (HAFX.out _ rfl rfl rfl rfl rfl rfl)
theorem vY (x:List Value) (hxl:x.length=479) (m:Sp) (hm:aZ m) (w:World) (B:Nat) (hB:B≤w.heap.size) (nda:Option Addr) (ndc:Nat) (coa:Option Addr) (coc:Nat) (daa:Option Addr) (dac:Nat) (tla:Option Addr) (tlc:Nat) (dfa:Option Addr) (dfc:Nat) (fxa:Option Addr) (fxc:Nat) (hx:(⟨m.k,m.so,⟨nda,m.nd.length,ndc⟩,m.en,⟨coa,m.co.length,coc⟩,⟨daa,m.da.length,dac⟩,m.bs,⟨tla,m.tl.length,tlc⟩,m.tb,⟨dfa,m.df.length,dfc⟩,⟨fxa,m.fx.length,fxc⟩⟩:Spv).Is w B m) (hnil:aC (⟨m.k,m.so,⟨nda,m.nd.length,ndc⟩,m.en,⟨coa,m.co.length,coc⟩,⟨daa,m.da.length,dac⟩,m.bs,⟨tla,m.tl.length,tlc⟩,m.tb,⟨dfa,m.df.length,dfc⟩,⟨fxa,m.fx.length,fxc⟩⟩:Spv)) (Z:Int×List Int) (hZ:Z=if 65536<(au m).length then (13,[]) else (0,au m)) (wm wz:World) (pb plc pn:Nat) (ta:Option Addr) (tc:Nat) (hR:RdM m wm pb plc ta tc (some ⟨pb,pn,none⟩) (plc-1)) (hpn:pn=if plc=1 then 0 else 0+1) (hw:wm=wz) (hbox:Blk wz w.heap.size #[.int .i64 m.k,.string m.so,.slice nda m.nd.length ndc,.int .u64 m.en,.slice coa m.co.length coc,.slice daa m.da.length dac,.int .u64 m.bs,.slice tla m.tl.length tlc,.int .u64 m.tb,.slice dfa m.df.length dfc,.slice fxa m.fx.length fxc] 55) (hbw:Below w.heap.size w wz) (h1:x.getD 1 undef=.pointer (some ⟨w.heap.size,0,none⟩)) (h7:x.getD 7 undef=.slice ta (aA m).length tc) (h8:x.getD 8 undef=.slice (some ⟨pb,0,none⟩) (1+m.nd.length+m.df.length) plc) :
 Code.wp Tryz.prog (aq 13 (Tryz.f16.body.getD .skip)) (bodyPost Tryz.prog Tryz.f16 (ah Z w)) ⟨x.toArray,[]⟩ wz:=by
 rw [ap x,hxl];exact rb_13 (fun t=>x.getD t undef) m hm w B hB nda ndc coa coc daa dac tla tlc dfa dfc fxa fxc hx hnil Z hZ wm wz pb plc pn ta tc hR hpn hw hbox hbw h1 h7 h8
theorem oV {m:Sp} (h1:m.so.size≤1000000) (h2:∀s∈m.nd,s.size≤1000000) (h3:∀d∈m.df,d.nm.size≤1000000):∀i,(nm (aG m) i).size≤1000000:=by
 intro i;unfold nm;by_cases hi:i<(aG m).length
 ·rw [gZe,gZg hi];have hm:(aG m)[i]∈aG m:=List.getElem_mem hi;show ((aG m)[i]).size≤1000000;generalize (aG m)[i]=s at hm;unfold aG at hm;rcases List.mem_cons.1 hm with rfl | hm
  ·exact h1
  ·rcases List.mem_append.1 hm with hm | hm
   ·exact h2 _ hm
   ·obtain ⟨d,hd,rfl⟩:=List.mem_map.1 hm;exact h3 _ hd
 ·rw [gZe,List.getElem?_eq_none (by omega)];show ByteArray.empty.size≤1000000;decide
theorem vN {m:Sp} (h:bV m=false):gt m=1:=by
 unfold gt;by_cases hk:m.k≠2∧m.k≠3
 ·rw [if_pos hk]
 ·rw [if_neg hk];cases h1:m.df.any dz with
  | true=>rfl
  | false=>
    cases h2:m.fx.any (dx m.df.length) with
    | true=>rfl
    | false=>
      exfalso
      have:=(ig m).2 ⟨h1,h2,by omega⟩;rw [h] at this;cases this
theorem xi {m:Sp} (h:gt m=0):bV m=true∧cO m=true:=by
 cases hv:bV m with
 | false=>rw [vN hv] at h;cases h
 | true=>
   refine ⟨rfl,?_⟩;cases hs:cO m with
   | true=>rfl
   | false=>rw [fY hv,hs] at h;cases h
theorem rb_10 (y:Nat→Value) (m:Sp) (w:World) (B:Nat) (hB:B≤w.heap.size) (nda:Option Addr) (ndc:Nat) (coa:Option Addr) (coc:Nat) (daa:Option Addr) (dac:Nat) (tla:Option Addr) (tlc:Nat) (dfa:Option Addr) (dfc:Nat) (fxa:Option Addr) (fxc:Nat) (hx:(⟨m.k,m.so,⟨nda,m.nd.length,ndc⟩,m.en,⟨coa,m.co.length,coc⟩,⟨daa,m.da.length,dac⟩,m.bs,⟨tla,m.tl.length,tlc⟩,m.tb,⟨dfa,m.df.length,dfc⟩,⟨fxa,m.fx.length,fxc⟩⟩:Spv).Is w B m) (hnil:aC (⟨m.k,m.so,⟨nda,m.nd.length,ndc⟩,m.en,⟨coa,m.co.length,coc⟩,⟨daa,m.da.length,dac⟩,m.bs,⟨tla,m.tl.length,tlc⟩,m.tb,⟨dfa,m.df.length,dfc⟩,⟨fxa,m.fx.length,fxc⟩⟩:Spv)) (Z:Int×List Int) (hZ:Z=bt m) (l1:m.nd.length≤1000) (l2:m.df.length≤1000) (l3:m.fx.length≤1000) (hsz:∀i,(nm (aG m) i).size≤1000000) (hv:bV m=true) (hs:cO m=true) (wz:World) (la:Option Addr) (lc:Nat) (hrow:bm w wz #[.int .i64 m.k,.string m.so,.slice nda m.nd.length ndc,.int .u64 m.en,.slice coa m.co.length coc,.slice daa m.da.length dac,.int .u64 m.bs,.slice tla m.tl.length tlc,.int .u64 m.tb,.slice dfa m.df.length dfc,.slice fxa m.fx.length fxc] 55 9 1 (.slice la (aG m).length lc) (aG m).length ((aG m).map Value.string)) (h1:y 1=.pointer (some ⟨w.heap.size,0,none⟩)) (h5:y 5=.slice la (aG m).length lc) :
 Code.wp Tryz.prog (aq 10 (Tryz.f16.body.getD .skip)) (bodyPost Tryz.prog Tryz.f16 (ah Z w)) ⟨af 479 y,[]⟩ wz:=by
 rw [bY,h1,h5];clear h1 h5;conv=>arg 2;whnf
 have hll:(aG m).length≤2001:=by rw [eu];omega
 have HLS:=hZz (du.own hrow.own);have HROW:=hZz hrow;have HSZ:=hZz hsz;have HBF:Hid ((aA m).length≤65536→fy (aG m)=true→Z=if 65536<(au m).length then (13,[]) else (0,au m)):=hZz (fun a b=>by rw [hZ,kW hv hs b a]);have HBL:Hid (65536<(aA m).length→fy (aG m)=true→Z=(13,[])):=hZz (fun a b=>by rw [hZ,kY hv hs b a]);have HBD:Hid (fy (aG m)=false→Z=(1,[])):=hZz (fun b=>by rw [hZ,jK hv hs b]);have HMB:=hZz (fun a=>hx.may hv hs a l1 l2 l3);have HX:=hZz hx;have HNIL:=hZz hnil;clear hZ hx hnil hrow hsz hv hs;cases hc:fy (aG m) with
 | false=>
   rcases nt (aG m) with hcl | ⟨i,kk,hi,hj,hz⟩
   ·rw [(gf _).2 hcl] at hc;cases hc
   ·have HZE:=hZz (HBD.out hc);have HRB:=hZz (oE _ _ _ lc _ _ _ _ HLS.out oZm (fun i=>Nat.le_trans (HSZ.out i) (by unfold maxLen;omega)) hi hj hz);clear hc hi hj hz;go_wp2_with fail;refine HRB.out.mono ?_;rintro r w4 ⟨rfl,rfl⟩;go_wp2_with fail;go_ret2;rw [HZE.out];exact ah.none HROW.out.bel
 | true=>
   have HRB:=hZz (pu _ _ _ lc _ _ HLS.out (lZr _) oZm HSZ.out ((gf _).1 hc));have HC:=hZz hc;clear hc;go_wp2_with fail;refine HRB.out.mono ?_;rintro r w4 ⟨hb4,⟨ht,rfl⟩ | ⟨ht,ta,tc,pa,pc,rfl,hot,hop⟩⟩
   ·have HZE:=hZz (HBL.out ht HC.out);have HBE:=hZz (HROW.out.bel.trans (hb4.mono HROW.out.bel.size));clear ht hb4;go_wp2_with fail;go_ret2;rw [HZE.out];exact ah.none HBE.out
   ·have hm:=HMB.out ht;have hpo:=hop;obtain ⟨pb,rfl⟩:=bA hop (by rw [eu];omega);have hkt:=cT hot;have hkp:=cT hop;have hll2:=eu m;have hNp:Nus w4 w4.heap.size (some ⟨pb,0,none⟩) (1+m.nd.length+m.df.length) (bl m):=by rw [←hll2];exact Nus.own (qr hm) hop
    obtain ⟨pn,hpn⟩:∃pn,pn=if pc=1 then 0 else 0+1:=⟨_,rfl⟩
    have hNd:Nus w4 w4.heap.size (some ⟨pb,pn,none⟩) m.nd.length (bK m):=Nus.sub hNp 1 m.nd.length pn oZm (by rw [hpn];split<;>omega);have hR:RdM m w4 pb pc ta tc (some ⟨pb,pn,none⟩) (pc-1):=⟨hNp,by omega,hkp.2.2,Bys.own (lj _ _) hot,(fun e=>by
     rcases hot.2 with ⟨hq,_⟩ | ⟨g,c',cur,hq,_⟩
     ·injection hq
     ·injection hq with hq;rw [e] at hq;cases hq),hNd⟩
    have HAFX:Hid (∀(x:List Value),x.length=479→x.getD 1 undef=.pointer (some ⟨w.heap.size,0,none⟩)→x.getD 7 undef=.slice ta (aA m).length tc→x.getD 8 undef=.slice (some ⟨pb,0,none⟩) (1+m.nd.length+m.df.length) pc→Code.wp Tryz.prog (aq 13 (Tryz.f16.body.getD .skip)) (bodyPost Tryz.prog Tryz.f16 (ah Z w)) ⟨x.toArray,[]⟩ w4):=hZz (fun x hxl h1 h7 h8=>vY x hxl m hm w B hB nda ndc coa coc daa dac tla tlc dfa dfc fxa fxc HX.out HNIL.out Z (HBF.out ht HC.out) w4 w4 pb pc pn ta tc hR hpn rfl (HROW.out.box.later hb4) (HROW.out.bel.trans (hb4.mono HROW.out.bel.size)) h1 h7 h8);have HLL2:=hZz hll2;clear hll2 hm hpo hkt hkp hNp hNd hR hot hop hb4 ht hpn HBF HBL HBD HMB;go_upto_if 69 with fail
    rename_i K1 hK1;have HK1:=hZz hK1;clear hK1;go_wp2_with fail;exact HK1.out _ _ (HAFX.out _ rfl rfl rfl (congrArg (fun n=>Value.slice (some ⟨pb,0,none⟩) n pc) HLL2.out))
theorem vS (x:List Value) (hxl:x.length=479) (m:Sp) (w:World) (B:Nat) (hB:B≤w.heap.size) (nda:Option Addr) (ndc:Nat) (coa:Option Addr) (coc:Nat) (daa:Option Addr) (dac:Nat) (tla:Option Addr) (tlc:Nat) (dfa:Option Addr) (dfc:Nat) (fxa:Option Addr) (fxc:Nat) (hx:(⟨m.k,m.so,⟨nda,m.nd.length,ndc⟩,m.en,⟨coa,m.co.length,coc⟩,⟨daa,m.da.length,dac⟩,m.bs,⟨tla,m.tl.length,tlc⟩,m.tb,⟨dfa,m.df.length,dfc⟩,⟨fxa,m.fx.length,fxc⟩⟩:Spv).Is w B m) (hnil:aC (⟨m.k,m.so,⟨nda,m.nd.length,ndc⟩,m.en,⟨coa,m.co.length,coc⟩,⟨daa,m.da.length,dac⟩,m.bs,⟨tla,m.tl.length,tlc⟩,m.tb,⟨dfa,m.df.length,dfc⟩,⟨fxa,m.fx.length,fxc⟩⟩:Spv)) (Z:Int×List Int) (hZ:Z=bt m) (l1:m.nd.length≤1000) (l2:m.df.length≤1000) (l3:m.fx.length≤1000) (hsz:∀i,(nm (aG m) i).size≤1000000) (hv:bV m=true) (hs:cO m=true) (wz:World) (la:Option Addr) (lc:Nat) (hrow:bm w wz #[.int .i64 m.k,.string m.so,.slice nda m.nd.length ndc,.int .u64 m.en,.slice coa m.co.length coc,.slice daa m.da.length dac,.int .u64 m.bs,.slice tla m.tl.length tlc,.int .u64 m.tb,.slice dfa m.df.length dfc,.slice fxa m.fx.length fxc] 55 9 1 (.slice la (aG m).length lc) (aG m).length ((aG m).map Value.string)) (h1:x.getD 1 undef=.pointer (some ⟨w.heap.size,0,none⟩)) (h5:x.getD 5 undef=.slice la (aG m).length lc) :
 Code.wp Tryz.prog (aq 10 (Tryz.f16.body.getD .skip)) (bodyPost Tryz.prog Tryz.f16 (ah Z w)) ⟨x.toArray,[]⟩ wz:=by
 rw [ap x,hxl];exact rb_10 (fun t=>x.getD t undef) m w B hB nda ndc coa coc daa dac tla tlc dfa dfc fxa fxc hx hnil Z hZ l1 l2 l3 hsz hv hs wz la lc hrow h1 h5
def ul (w:World) (m:Sp) (C:Array Value) (k:Nat) (a:Act) (wr:World):Prop:=
 ∃(y:Nat→Value) (l:Value),a=⟨af 479 y,[]⟩∧k≤m.df.length∧y 1=.pointer (some ⟨w.heap.size,0,none⟩)∧y 5=l∧y 6=.int .i64 k∧bm w wr C 55 9 1 l (1+m.nd.length+k) (((m.so :: m.nd)++(m.df.take k).map (·.nm)).map Value.string)
theorem ul.lit {w:World} {m:Sp} {C:Array Value} {k:Nat} {wr:World} {l:Value} (x:List Value) (hx:x.length=479) (hk:k≤m.df.length) (h1:x.getD 1 undef=.pointer (some ⟨w.heap.size,0,none⟩)) (h5:x.getD 5 undef=l) (h6:x.getD 6 undef=.int .i64 k)
 (hr:bm w wr C 55 9 1 l (1+m.nd.length+k) (((m.so :: m.nd)++(m.df.take k).map (·.nm)).map Value.string)):ul w m C k ⟨x.toArray,[]⟩ wr:=
 ⟨fun t=>x.getD t undef,l,by rw [ap x,hx],hk,h1,h5,h6,hr⟩
theorem rb_6 (y:Nat→Value) (m:Sp) (w:World) (B:Nat) (hB:B≤w.heap.size) (nda:Option Addr) (ndc:Nat) (coa:Option Addr) (coc:Nat) (daa:Option Addr) (dac:Nat) (tla:Option Addr) (tlc:Nat) (dfa:Option Addr) (dfc:Nat) (fxa:Option Addr) (fxc:Nat) (hx:(⟨m.k,m.so,⟨nda,m.nd.length,ndc⟩,m.en,⟨coa,m.co.length,coc⟩,⟨daa,m.da.length,dac⟩,m.bs,⟨tla,m.tl.length,tlc⟩,m.tb,⟨dfa,m.df.length,dfc⟩,⟨fxa,m.fx.length,fxc⟩⟩:Spv).Is w B m) (hnil:aC (⟨m.k,m.so,⟨nda,m.nd.length,ndc⟩,m.en,⟨coa,m.co.length,coc⟩,⟨daa,m.da.length,dac⟩,m.bs,⟨tla,m.tl.length,tlc⟩,m.tb,⟨dfa,m.df.length,dfc⟩,⟨fxa,m.fx.length,fxc⟩⟩:Spv)) (Z:Int×List Int) (hZ:Z=bt m) (l1:m.nd.length≤1000) (l2:m.df.length≤1000) (l3:m.fx.length≤1000) (hsz:∀i,(nm (aG m) i).size≤1000000) (hv:bV m=true) (hs:cO m=true) (wz:World) (l:Value) (hrow:bm w wz #[.int .i64 m.k,.string m.so,.slice nda m.nd.length ndc,.int .u64 m.en,.slice coa m.co.length coc,.slice daa m.da.length dac,.int .u64 m.bs,.slice tla m.tl.length tlc,.int .u64 m.tb,.slice dfa m.df.length dfc,.slice fxa m.fx.length fxc] 55 9 1 l (1+m.nd.length) ((m.so :: m.nd).map Value.string)) (h1:y 1=.pointer (some ⟨w.heap.size,0,none⟩)) (h5:y 5=l) :
 Code.wp Tryz.prog (aq 6 (Tryz.f16.body.getD .skip)) (bodyPost Tryz.prog Tryz.f16 (ah Z w)) ⟨af 479 y,[]⟩ wz:=by
 rw [bY,h1,h5];clear h1 h5;conv=>arg 2;whnf
 obtain ⟨i0,hI,hz0,hz1,hz2⟩:=info_parts gN;have HI:=hZz hI;have HZ0:=hZz hz0;have HZ1:=hZz hz1;have HZ2:=hZz hz2;clear hI hz0 hz1 hz2;have HAFX:Hid (∀(x:List Value) (w9:World) (la:Option Addr) (lc:Nat),x.length=479→x.getD 1 undef=.pointer (some ⟨w.heap.size,0,none⟩)→x.getD 5 undef=.slice la (aG m).length lc→bm w w9 #[.int .i64 m.k,.string m.so,.slice nda m.nd.length ndc,.int .u64 m.en,.slice coa m.co.length coc,.slice daa m.da.length dac,.int .u64 m.bs,.slice tla m.tl.length tlc,.int .u64 m.tb,.slice dfa m.df.length dfc,.slice fxa m.fx.length fxc] 55 9 1 (.slice la (aG m).length lc) (aG m).length ((aG m).map Value.string)→Code.wp Tryz.prog (aq 10 (Tryz.f16.body.getD .skip)) (bodyPost Tryz.prog Tryz.f16 (ah Z w)) ⟨x.toArray,[]⟩ w9):=hZz (fun x w9 la lc hxl h1 h5 h=>vS x hxl m w B hB nda ndc coa coc daa dac tla tlc dfa dfc fxa fxc hx hnil Z hZ l1 l2 l3 hsz hv hs w9 la lc h h1 h5);have HLB:Hid (aG m=(m.so :: m.nd)++(m.df.take m.df.length).map (·.nm)):=hZz (by unfold aG;rw [List.take_length];rfl);have HLL:=hZz (eu m);have HST:=hZz hrow;have HDD:Hid (∀k,k<m.df.length→∃db do',dfa=some ⟨db,do',none⟩∧∀w1,Below w.heap.size w w1→Df.At w1 db (do'+k*4) (m.df.getD k Df.zero)):=hZz (fun k hk=>by
  obtain ⟨db,do',e,hb,hc⟩:=(hx.df.more hB).hc (Nat.lt_of_le_of_lt (Nat.zero_le _) hk);exact ⟨db,do',e,fun w1 h1=>(hc k hk).below h1 hb⟩)
 clear hZ hx hnil hrow hsz hv hs;go_upto_block 0 with fail
 rename_i K1 hK1;have HK1:=hZz hK1;clear hK1;refine wp_block ?_;refine gQ m.df.length 6 (ul w m #[.int .i64 m.k,.string m.so,.slice nda m.nd.length ndc,.int .u64 m.en,.slice coa m.co.length coc,.slice daa m.da.length dac,.int .u64 m.bs,.slice tla m.tl.length tlc,.int .u64 m.tb,.slice dfa m.df.length dfc,.slice fxa m.fx.length fxc]) (fun k a w1 h=>by obtain ⟨y,o,-,h,-⟩:=h;exact h) (fun k a w1 h=>by obtain ⟨y,o,rfl,-,-,-,h,-⟩:=h;rw [eZ y dZc,h];rfl) ?_ ?_
 ·exact ul.lit _ rfl (Nat.zero_le _) rfl rfl rfl (by simpa using HST.out)
 ·rintro k a wr ⟨y,l,rfl,hk,h1,h5,h6,hst⟩ K hK;rw [bY,h1,h5,h6];have HK:=hZz hK;clear h1 h5 h6 HST hK;have HR:=hZz hst;have s9:wr.cell? ⟨w.heap.size,9,none⟩=some (.slice dfa m.df.length dfc):=hst.box.cell 9;obtain ⟨la,lc,rfl,-,-⟩:=az hst.own;have hgl:=hst.box.lt;clear hst;by_cases hlt:k<m.df.length
  ·have hki:(k:Int)<m.df.length:=by omega
   obtain ⟨db,do',hda,hdc⟩:=HDD.out k hlt;subst hda;have HSU:Hid ((m.so :: m.nd)++(m.df.take (k+1)).map (·.nm)=((m.so :: m.nd)++(m.df.take k).map (·.nm))++[(m.df.getD k Df.zero).nm]):=hZz (by rw [kM hlt,List.append_assoc]);obtain ⟨Q0,hQ0⟩:∃q,(m.so :: m.nd)++(m.df.take k).map (·.nm)=q:=⟨_,rfl⟩
   rw [hQ0] at HR HSU;obtain ⟨x0,x1,x2,x3⟩:=hdc wr HR.out.bel;generalize m.df.getD k Df.zero=d at x0 x1 x2 x3 HSU;clear hdc hQ0;go_wp2_with (at_builtin;refine wpList_append_own _ rfl _ _ 28 rfl (w.heap.size+1) 9 i0 _ 1 16 Tryz.underlying28 HI.out HZ0.out HZ1.out HZ2.out rfl dZc _ (1+m.nd.length+k) _ rfl (HR.out.own.alloc _) _ 1 1 [.string d.nm] rfl rfl ?d1 ?d2 ?d3 ?d4 ?d5 ?_);try (case d1=>exact bT _ [.string d.nm] _ _ (by simp))
   case d2=>first | (intro u hu;obtain rfl:=List.mem_singleton.1 hu;rfl) | rfl | simp
   case d3=>unfold maxLen;omega
   case d4=>omega
   case d5=>simp;omega
   intro v4 w4 hown4 hg4 _;have HA:Hid (bm w w4 #[.int .i64 m.k,.string m.so,.slice nda m.nd.length ndc,.int .u64 m.en,.slice coa m.co.length coc,.slice daa m.da.length dac,.int .u64 m.bs,.slice tla m.tl.length tlc,.int .u64 m.tb,.slice (some ⟨db,do',none⟩) m.df.length dfc,.slice fxa m.fx.length fxc] 55 9 1 v4 (1+m.nd.length+(k+1)) (((m.so :: m.nd)++(m.df.take (k+1)).map (·.nm)).map Value.string)):=hZz (by rw [HSU.out];exact HR.out.app (by rw [List.map_append];exact hown4) hg4);clear hown4 hg4;go_wp2_with fail;exact HK.out _ _ (ul.lit _ rfl (Nat.succ_le_of_lt hlt) rfl rfl rfl HA.out)
  ·have hki:¬(k:Int)<m.df.length:=by omega
   obtain rfl:k=m.df.length:=by omega
   go_wp2_with fail;exact HK1.out _ _ (HAFX.out _ wr la lc rfl rfl (congrArg (fun n=>Value.slice la n lc) HLL.out.symm) (by rw [HLL.out,HLB.out];exact HR.out))
theorem rb_6x (x:List Value) (hxl:x.length=479) (m:Sp) (w:World) (B:Nat) (hB:B≤w.heap.size) (nda:Option Addr) (ndc:Nat) (coa:Option Addr) (coc:Nat) (daa:Option Addr) (dac:Nat) (tla:Option Addr) (tlc:Nat) (dfa:Option Addr) (dfc:Nat) (fxa:Option Addr) (fxc:Nat) (hx:(⟨m.k,m.so,⟨nda,m.nd.length,ndc⟩,m.en,⟨coa,m.co.length,coc⟩,⟨daa,m.da.length,dac⟩,m.bs,⟨tla,m.tl.length,tlc⟩,m.tb,⟨dfa,m.df.length,dfc⟩,⟨fxa,m.fx.length,fxc⟩⟩:Spv).Is w B m) (hnil:aC (⟨m.k,m.so,⟨nda,m.nd.length,ndc⟩,m.en,⟨coa,m.co.length,coc⟩,⟨daa,m.da.length,dac⟩,m.bs,⟨tla,m.tl.length,tlc⟩,m.tb,⟨dfa,m.df.length,dfc⟩,⟨fxa,m.fx.length,fxc⟩⟩:Spv)) (Z:Int×List Int) (hZ:Z=bt m) (l1:m.nd.length≤1000) (l2:m.df.length≤1000) (l3:m.fx.length≤1000) (hsz:∀i,(nm (aG m) i).size≤1000000) (hv:bV m=true) (hs:cO m=true) (wz:World) (l:Value) (hrow:bm w wz #[.int .i64 m.k,.string m.so,.slice nda m.nd.length ndc,.int .u64 m.en,.slice coa m.co.length coc,.slice daa m.da.length dac,.int .u64 m.bs,.slice tla m.tl.length tlc,.int .u64 m.tb,.slice dfa m.df.length dfc,.slice fxa m.fx.length fxc] 55 9 1 l (1+m.nd.length) ((m.so :: m.nd).map Value.string)) (h1:x.getD 1 undef=.pointer (some ⟨w.heap.size,0,none⟩)) (h5:x.getD 5 undef=l) :
 Code.wp Tryz.prog (aq 6 (Tryz.f16.body.getD .skip)) (bodyPost Tryz.prog Tryz.f16 (ah Z w)) ⟨x.toArray,[]⟩ wz:=by
 rw [ap x,hxl];exact rb_6 (fun t=>x.getD t undef) m w B hB nda ndc coa coc daa dac tla tlc dfa dfc fxa fxc hx hnil Z hZ l1 l2 l3 hsz hv hs wz l hrow h1 h5
theorem nV (B:Nat) (x:Spv) (m:Sp) (w:World) (h:x.Is w B m) (hB:B≤w.heap.size) (hnil:aC x) (l1:m.nd.length≤1000) (l2:m.df.length≤1000) (l3:m.fx.length≤1000) (l4:m.co.length≤1000000) (l5:m.da.length≤1000000) (l6:m.tl.length≤1000000)
 (hsz:∀i,(nm (aG m) i).size≤1000000) :
 Calls Tryz.prog 16 #[x.val] w (ah (bt m) w):=by
 obtain ⟨i0,hI,hz0,hz1,hz2⟩:=info_parts gN;have HI:=hZz hI;have HZ0:=hZz hz0;have HZ1:=hZz hz1;have HZ2:=hZz hz2;clear hI hz0 hz1 hz2;obtain ⟨Z,hZ⟩:∃Z,Z=bt m:=⟨_,rfl⟩
 rw [←hZ];have HMA:Hid (∀w1,Below w.heap.size w w1→_):=hZz (fun w1 hb=>tN B x m w1 (h.below (hb.mono hB)) (Nat.le_trans hB hb.size) oZm oZm oZm oZm oZm);have hk:=h.k;have hso:=h.so;have hnl:=h.nd.1;have hcl:=h.co.1;have hdl:=h.da.1;have htl:=h.tl.1;have hfl:=h.df.hl;have hxl:=h.fx.hl;have hen:=h.en;have hbs:=h.bs;have htb:=h.tb;obtain ⟨k,so,⟨nda,ndn,ndc⟩,en,⟨coa,con,coc⟩,⟨daa,dan,dac⟩,bz,⟨tla,tln,tlc⟩,tz,⟨dfa,dfn,dfc⟩,⟨fxa,fxn,fxc⟩⟩:=x;simp only at hk hso hnl hcl hdl htl hfl hxl hen hbs htb;subst hk hso hnl hcl hdl htl hfl hxl hen hbs htb;have HX:=hZz h;have HNIL:=hZz hnil;unfold Spv.val at HMA⊢;simp only at HMA⊢;have HBX0:Hid (Blk (w.alloc (.cells #[.int .i64 m.k,.string m.so,.slice nda m.nd.length ndc,.int .u64 m.en,.slice coa m.co.length coc,.slice daa m.da.length dac,.int .u64 m.bs,.slice tla m.tl.length tlc,.int .u64 m.tb,.slice dfa m.df.length dfc,.slice fxa m.fx.length fxc] 55)) w.heap.size #[.int .i64 m.k,.string m.so,.slice nda m.nd.length ndc,.int .u64 m.en,.slice coa m.co.length coc,.slice daa m.da.length dac,.int .u64 m.bs,.slice tla m.tl.length tlc,.int .u64 m.tb,.slice dfa m.df.length dfc,.slice fxa m.fx.length fxc] 55):=hZz (Blk.new _ _ _);have HBE0:Hid (Below w.heap.size w (w.alloc (.cells #[.int .i64 m.k,.string m.so,.slice nda m.nd.length ndc,.int .u64 m.en,.slice coa m.co.length coc,.slice daa m.da.length dac,.int .u64 m.bs,.slice tla m.tl.length tlc,.int .u64 m.tb,.slice dfa m.df.length dfc,.slice fxa m.fx.length fxc] 55))):=hZz ((Below.refl _ _).alloc (lZr _) _);have HZZ:=hZz hZ;have HSZ:=hZz hsz;clear h hnil hZ hsz;go_enter Tryz.func16,Tryz.ntmps16
 go_wp2_with (refine wpList_load_row rfl 55 _ rfl w.heap.size rfl _ _ (0,0) _ HBX0.out Tryz.underlying55 rfl (by kernel_rfl) ?_);refine (HMA.out _ HBE0.out).mono ?_;rintro r w1 ⟨rfl,hb1⟩;have HBX1:=hZz (HBX0.out.later hb1);have HBE1:=hZz (HBE0.out.trans (hb1.mono HBE0.out.size));clear hb1 HBX0 HBE0 HMA;by_cases hm:gt m=0
 ·obtain ⟨hv,hs⟩:=xi hm;have HAFX:Hid (∀(x:List Value) (w9:World) (l:Value),x.length=479→x.getD 1 undef=.pointer (some ⟨w.heap.size,0,none⟩)→x.getD 5 undef=l→bm w w9 #[.int .i64 m.k,.string m.so,.slice nda m.nd.length ndc,.int .u64 m.en,.slice coa m.co.length coc,.slice daa m.da.length dac,.int .u64 m.bs,.slice tla m.tl.length tlc,.int .u64 m.tb,.slice dfa m.df.length dfc,.slice fxa m.fx.length fxc] 55 9 1 l (1+m.nd.length) ((m.so :: m.nd).map Value.string)→Code.wp Tryz.prog (aq 6 (Tryz.f16.body.getD .skip)) (bodyPost Tryz.prog Tryz.f16 (ah Z w)) ⟨x.toArray,[]⟩ w9):=hZz (fun x w9 l hxl h1 h5 h=>rb_6x x hxl m w B hB nda ndc coa coc daa dac tla tlc dfa dfc fxa fxc HX.out HNIL.out Z HZZ.out l1 l2 l3 HSZ.out hv hs w9 l h h1 h5);have hmb:(gt m != 0)=false:=by rw [hm];rfl
  have HND:Hid (∀w1,Below w.heap.size w w1→du w1 w.heap.size nda m.nd.length m.nd):=hZz (fun w1 h1=>(HX.out.nd.more hB).below h1);have HNN:=hZz HNIL.out.nd;have s1:w1.cell? ⟨w.heap.size,1,none⟩=some (.string m.so):=HBX1.out.cell 1;have s2:w1.cell? ⟨w.heap.size,2,none⟩=some (.slice nda m.nd.length ndc):=HBX1.out.cell 2;have hgl:=HBX1.out.lt;have HNB:Hid (Below w1.heap.size w1 (w1.alloc (.cells #[.string m.so] 9))):=hZz ((Below.refl _ _).alloc (lZr _) _);have HST0:Hid (bm w (w1.alloc (.cells #[.string m.so] 9)) #[.int .i64 m.k,.string m.so,.slice nda m.nd.length ndc,.int .u64 m.en,.slice coa m.co.length coc,.slice daa m.da.length dac,.int .u64 m.bs,.slice tla m.tl.length tlc,.int .u64 m.tb,.slice dfa m.df.length dfc,.slice fxa m.fx.length fxc] 55 9 1 (.slice (some ⟨w1.heap.size,0,none⟩) 1 1) 1 ([m.so].map Value.string)):=hZz
   ⟨⟨rfl,.inr ⟨_,_,_,rfl,hgl,by have:=Blk.new w1 #[.string m.so] 9;exact this,by omega,by unfold maxLen;omega,by simp,rfl⟩⟩,HBX1.out.later HNB.out,HBE1.out.trans (HNB.out.mono HBE1.out.size)⟩
  clear hm;generalize gt m=mi at hmb;go_upto_if 37 with fail
  rename_i KA hKA;have HKA:=hZz hKA;clear hKA;go_wp2_with fail;refine HKA.out _ _ ?_;conv=>arg 2;whnf
  refine wp_seq_k fun KB hKB=>?_;have HKB:=hZz hKB;clear hKB;go_wp2_with fail;refine HKB.out _ _ ?_;refine wp_seq_k fun KC hKC=>?_;have HKC:=hZz hKC;clear hKC HKA HKB;go_wp2_with (at_builtin;refine eP rfl _ _ 28 rfl (w.heap.size+1) 9 i0 (.string .empty) 16 Tryz.underlying28 HI.out HZ0.out HZ1.out HZ2.out rfl _ 1 _ rfl HST0.out.own _ m.nd.length ndc _ m.nd rfl (HND.out _ HST0.out.bel) HNN.out ?e1 ?e2 ?e3 ?_);try (case e1=>unfold maxLen;omega)
  try (case e2=>omega)
  try (case e3=>simp;omega)
  intro v2 w2 hown2 hg2;have HST1:Hid (bm w w2 #[.int .i64 m.k,.string m.so,.slice nda m.nd.length ndc,.int .u64 m.en,.slice coa m.co.length coc,.slice daa m.da.length dac,.int .u64 m.bs,.slice tla m.tl.length tlc,.int .u64 m.tb,.slice dfa m.df.length dfc,.slice fxa m.fx.length fxc] 55 9 1 v2 (1+m.nd.length) ((m.so :: m.nd).map Value.string)):=hZz
   ⟨hown2,HST0.out.box.grown hg2 (fun e=>by have:=(HST0.out.own.lt _ e.symm).1;omega),HST0.out.bel.grown hg2 HST0.out.bel.size (fun q e=>by have:=(HST0.out.own.lt q e).1;omega)⟩
  clear hown2 hg2;go_wp2_with fail;exact HKC.out _ _ (HAFX.out _ w2 v2 rfl rfl rfl HST1.out)
 ·have hmb:(gt m != 0)=true:=by rw [bne_iff_ne];exact hm
  have HZE:Hid (Z=(gt m,[])):=hZz (by rw [HZZ.out];unfold bt;rw [if_pos hm]);clear hm;generalize gt m=mi at hmb HZE;go_wp2_with fail;go_ret2;rw [HZE.out];exact ah.none HBE1.out
theorem qU:(Tryz.prog.info? 89).map (fun i=>(i.zero,i.size,i.bytes))=some (some (.agg #[.string .empty,.int .i64 0,.int .u64 0,.bool false]),4,40):=by kernel_rfl
theorem rH:(Tryz.prog.info? 99).map (fun i=>(i.zero,i.size,i.bytes))=some (some (.agg #[.int .i64 0,.int .u64 0,.int .u32 0,.int .i64 0,.int .i64 0]),5,40):=by kernel_rfl
theorem lK (y:Nat→Value):af 106 y=#[y 0,y 1,y 2,y 3,y 4,y 5,y 6,y 7,y 8,y 9,y 10,y 11,y 12,y 13,y 14,y 15,y 16,y 17,y 18,y 19,y 20,y 21,y 22,y 23,y 24,y 25,y 26,y 27,y 28,y 29,y 30,y 31,y 32,y 33,y 34,y 35,y 36,y 37,y 38,y 39,y 40,y 41,y 42,y 43,y 44,y 45,y 46,y 47,y 48,y 49,y 50,y 51,y 52,y 53,y 54,y 55,y 56,y 57,y 58,y 59,y 60,y 61,y 62,y 63,y 64,y 65,y 66,y 67,y 68,y 69,y 70,y 71,y 72,y 73,y 74,y 75,y 76,y 77,y 78,y 79,y 80,y 81,y 82,y 83,y 84,y 85,y 86,y 87,y 88,y 89,y 90,y 91,y 92,y 93,y 94,y 95,y 96,y 97,y 98,y 99,y 100,y 101,y 102,y 103,y 104,y 105]:=rfl
structure PAp (w W0:World) (O:Value→Array Value) (e:TypeId) (bs k n:Nat) (l:Value) (xs ys:List Value) (iL iA iS sL sA:Nat) (L:Nat→Bool) (y:Nat→Value) (wx:World):Prop where
 bel:Below (w.heap.size+2) W0 wx
 lit:L iL=true→L iA=false→∃g,y sL=.slice (some ⟨g,0,none⟩) 1 1∧Blk wx g ys.toArray e
 own0:L iA=false→wx.ownsRow bs e k l n xs
 own1:L iA=true→wx.ownsRow bs e k (y sA) (n+1) (xs++ys)
 o0:L iS=false→Blk wx (w.heap.size+2) (O l) 55
 o1:L iS=true→Blk wx (w.heap.size+2) (O (y sA)) 55
 kp:∀e' k' v' n' xs',W0.ownsRow (w.heap.size+3) e' k' v' n' xs'→(∀q,v'.ownBlock=some q→q<bs)→wx.ownsRow (w.heap.size+3) e' k' v' n' xs'
section
variable {w W0:World} {O:Value→Array Value} {e:TypeId} {bs k n:Nat} {l:Value} {xs ys:List Value} {iL iA iS sL sA:Nat} {L L':Nat→Bool} {y y':Nat→Value} {wx:World}
theorem PAp.toLit (h:PAp w W0 O e bs k n l xs ys iL iA iS sL sA L y wx) (hW:w.heap.size+2≤wx.heap.size) (hA:L' iA=L iA) (hS:L' iS=L iS) (hy:y' sA=y sA) (hl:y' sL=.slice (some ⟨wx.heap.size,0,none⟩) 1 1):PAp w W0 O e bs k n l xs ys iL iA iS sL sA L' y' (wx.alloc (.cells ys.toArray e)) where
 bel:=h.bel.alloc hW _
 lit _ _:=⟨wx.heap.size,hl,Blk.new _ _ _⟩
 own0 a:=(h.own0 (hA▸a)).alloc _
 own1 a:=by rw [hy];exact (h.own1 (hA▸a)).alloc _
 o0 a:=(h.o0 (hS▸a)).alloc _
 o1 a:=by rw [hy];exact (h.o1 (hS▸a)).alloc _
 kp e' k' v' n' xs' a b:=(h.kp e' k' v' n' xs' a b).alloc _
theorem PAp.toApp (h:PAp w W0 O e bs k n l xs ys iL iA iS sL sA L y wx) (hb:w.heap.size+3≤bs) (hA:L iA=false) (hS:L iS=false) (hA':L' iA=true) (hS':L' iS=L iS) {v:Value} (hy:y' sA=v) {w':World} (ho:w'.ownsRow bs e k v (n+1) (xs++ys)) (hg:wx.grownBy w' l.ownBlock) (hW:w.heap.size+2≤wx.heap.size):PAp w W0 O e bs k n l xs ys iL iA iS sL sA L' y' w' where
 bel:=h.bel.grown hg hW (fun q e=>by have:=((h.own0 hA).lt q e).1;omega)
 lit _ a:=by rw [hA'] at a;cases a
 own0 a:=by rw [hA'] at a;cases a
 own1 _:=by rw [hy];exact ho
 o0 _:=(h.o0 hS).grown hg (fun e=>by have:=((h.own0 hA).lt _ e.symm).1;omega)
 o1 a:=by rw [hS',hS] at a;cases a
 kp e' k' v' n' xs' a b:=(h.kp e' k' v' n' xs' a b).kept hg (by
  cases hv:v'.ownBlock with
  | none=>exact .inl rfl
  | some q=>
    refine .inr (fun e=>?_);have h1:=b q hv;have h2:=((h.own0 hA).lt q e.symm).1;omega)
theorem PAp.toSt (h:PAp w W0 O e bs k n l xs ys iL iA iS sL sA L y wx) (hb:w.heap.size+3≤bs) (hA:L iA=true) (hS:L iS=false) (hA':L' iA=L iA) (hS':L' iS=true) (hy:y' sA=y sA) {i:Nat} (hO:∀v,(O l).setIfInBounds i v=O v) {v:Value} (hv:y sA=v):PAp w W0 O e bs k n l xs ys iL iA iS sL sA L' y' (wx.setCell ⟨w.heap.size+2,i,none⟩ v):=by
 subst hv;have hg:wx.grownBy (wx.setCell ⟨w.heap.size+2,i,none⟩ (y sA)) (some (w.heap.size+2)):=⟨rfl,rfl,rfl,by simp [World.setCell],fun q _ hq=>Below.heap_setCell _ _ _ _ (fun e=>hq (congrArg some e))⟩
 exact {
  bel:=h.bel.setCell (lZr _) _
  lit:=fun _ a=>by rw [hA',hA] at a;cases a
  own0:=fun a=>by rw [hA',hA] at a;cases a
  own1:=fun _=>by
   rw [hy];refine (h.own1 hA).kept hg ?_;cases hv:(y sA).ownBlock with
   | none=>exact .inl rfl
   | some q=>exact .inr (fun e=>by have:=((h.own1 hA).lt q hv).1;injection e with e;omega)
  o0:=fun a=>by rw [hS'] at a;cases a
  o1:=fun _=>by rw [hy,←hO];exact (h.o0 hS).set i _
  kp:=fun e' k' v' n' xs' a b=>(h.kp e' k' v' n' xs' a b).kept hg (by
   cases hv:v'.ownBlock with
   | none=>exact .inl rfl
   | some q=>exact .inr (fun e=>by have:=(a.lt q hv).1;injection e with e;omega)) }
end
end Go.Proofs.YtclgbdfkdbbinaaGreat
