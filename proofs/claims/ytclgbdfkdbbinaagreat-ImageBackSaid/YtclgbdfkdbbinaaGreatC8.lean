/-
  What is proved here: words and contracts, a part of those that the statement rests on (C8).
  Conditions: none but that the arguments are values of their types.
-/
import Derived.Test.YtclgbdfkdbbinaaGreatC7
import Derived.Test.YtclgbdfkdbbinaaGreatC5
import Derived.Test.YtclgbdfkdbbinaaGreatC1
import Derived.Test.YtclgbdfkdbbinaaGreatC2
import Derived.Test.YtclgbdfkdbbinaaGreatC3
import Derived.Deep.RegionWith
set_option linter.unusedVariables false
set_option linter.unusedSimpArgs false
set_option maxRecDepth 100000
set_option maxHeartbeats 12800000
namespace Go.Proofs.YtclgbdfkdbbinaaGreat
open Go.RowKit
def parts (k e s c:Int):List (List Int):=[hd0,digs k 2,digs 19823 2,digs 1 4,digs e 8,digs s 8,digs 0 8,digs 0 4,digs 64 2,digs 56 2,digs c 2,digs 0 2,digs 0 2,digs 0 2]
theorem parts_flat (k e s c:Int):(parts k e s c).flatten=enc k e s c:=by simp [parts,enc]
theorem parts_bd (k e s c:Int):∀i,i<14→∀n∈(parts k e s c).getD i [],0≤n∧n≤255:=by
 intro i hi n hn;refine enc_bd k e s c n ?_;rw [←parts_flat];have hl:i<(parts k e s c).length:=hi;rw [List.getD_eq_getElem?_getD,List.getElem?_eq_getElem hl] at hn;exact List.mem_flatten.2 ⟨_,List.getElem_mem hl,hn⟩
def k3_Is (v:Value):Value→World→Prop:=fun u _=>u=v
def Rows2 (zss:List (List Int)) (u:Value) (w:World):Prop:=∃vs g,u=.slice (some ⟨g,0,none⟩) zss.length zss.length∧Cel w w.heap.size (some ⟨g,0,none⟩) zss.length vs∧∀i,i<zss.length→k3_Made (zss.getD i []) (vs.getD i undef) w
theorem k3_Made.kept {B m:Nat} {zs:List Int} {u:Value} {w w':World} (h:k3_Made zs u w) (hb:Kept B m w w'):k3_Made zs u w':=by
 obtain ⟨g,c,e,h1,h2,h3⟩:=h;exact ⟨g,c,e,h1,h2,h3.kept hb⟩
theorem Rows2.kept {B m:Nat} {zss:List (List Int)} {u:Value} {w w':World} (h:Rows2 zss u w) (hb:Kept B m w w'):Rows2 zss u w':=by
 obtain ⟨vs,g,e,hc,hm⟩:=h;exact ⟨vs,g,e,hc.kept hb,fun i hi=>(hm i hi).kept hb⟩
def Own (B:Nat) (zs:List Int) (u:Value) (w:World):Prop:=w.ownsRow B 5 1 u zs.length (zs.map (Value.int .u8))
def Whole (B:Nat) (zs:List Int) (u:Value) (w:World):Prop:=∃g fr,u=.slice (some ⟨g,0,none⟩) zs.length zs.length∧B≤g∧w.heap[g]?=some (.cells (zs.map (Value.int .u8)).toArray 5 fr)
theorem Whole.kept {B B' m:Nat} {zs:List Int} {u:Value} {w w':World} (h:Whole B zs u w) (hb:Kept B' m w w'):Whole B zs u w':=by
 obtain ⟨g,fr,e,hB,hg⟩:=h;obtain ⟨fr',h',_⟩:=hb.cells _ _ _ _ hg;exact ⟨g,fr',e,hB,h'⟩
theorem Whole.made {B:Nat} {zs:List Int} {u:Value} {w:World} (h:Whole B zs u w) (hz:∀n∈zs,0≤n∧n≤255) (hl:zs.length≤1000000):k3_Made zs u w:=by
 obtain ⟨g,fr,e,hB,hg⟩:=h;have hlt:=(Array.getElem?_eq_some_iff.1 hg).1;refine ⟨g,zs.length,e,Nat.le_refl _,by omega,rfl,hz,fun _=>⟨g,0,rfl,hlt,fun i hi=>?_⟩⟩;unfold World.cell?;simp only [hg,Nat.zero_add];have:=getElem_map_u8 hi;simpa using this
theorem put_arg (k e s c:Int) (w:World) (h:validB k c=false) :
 Calls Tryz.prog 87 #[headV k e s c] w fun r w'=>r=.returned (.tuple #[.slice none 0 0,.int .i64 1])∧Below w.heap.size w w':=by
 have HV:Hid (∀w1,Calls Tryz.prog 132 #[headV k e s c] w1 fun r w'=>r=.returned (.bool false)∧Below w1.heap.size w1 w'):=Lib.hid (fun w1=>h▸k3_valid_any k e s c w1);clear h;unfold headV at *;go_enter Tryz.func87,Tryz.ntmps87
 go_wp2_with (go_at_call 132;refine (HV.out _).mono ?_);rintro r w1 ⟨rfl,hb⟩;have hbb:Below w.heap.size w w1:=((Below.refl _ _).alloc (Nat.le_refl _) _).trans (hb.mono (by simp));clear hb;go_wp2;go_ret2;exact ⟨rfl,hbb⟩
def putFs (B b:Nat) (k e s c:Int):List (Value→World→Prop):=
 [Whole B hd0,k3_Made hd0,k3_Is (.pointer (some ⟨b,0,none⟩)),k3_Is (.int .i64 k),k3_Is (.int .u64 k),k3_Made (digs k 2),k3_Made (digs 19823 2),k3_Made (digs 1 4),k3_Is (.pointer (some ⟨b,1,none⟩)),k3_Is (.int .u64 e),k3_Made (digs e 8),
  k3_Is (.pointer (some ⟨b,2,none⟩)),k3_Is (.int .u64 s),k3_Made (digs s 8),k3_Made (digs 0 8),k3_Made (digs 0 4),k3_Made (digs 64 2),k3_Made (digs 56 2),k3_Is (.pointer (some ⟨b,3,none⟩)),k3_Is (.int .i64 c),k3_Is (.int .u64 c),k3_Made (digs c 2),
  k3_Made (digs 0 2),k3_Made (digs 0 2),k3_Made (digs 0 2),Rows2 (parts k e s c),Own B (enc k e s c),Own B (enc k e s c),k3_Is (.int .i64 0)]
def putF (B b:Nat) (k e s c:Int) (i:Nat):Value→World→Prop:=(putFs B b k e s c).getD i fun _ _=>True
theorem putF_mono (B b:Nat) (k e s c:Int):∀(i:Nat) (u:Value) (w w':World),putF B b k e s c i u w→Kept B 16 w w'→putF B b k e s c i u w':=by
 intro i u w w' h hb;unfold putF at *;by_cases hi:i<(putFs B b k e s c).length
 ·rw [List.getD_eq_getElem?_getD,List.getElem?_eq_getElem hi] at *;have hm:=List.getElem_mem hi;generalize (putFs B b k e s c)[i]=f at *;simp only [putFs,List.mem_cons,List.not_mem_nil,or_false] at hm;rcases hm with rfl | rfl | rfl | rfl | rfl | rfl | rfl | rfl | rfl | rfl | rfl | rfl | rfl | rfl | rfl | rfl | rfl | rfl | rfl | rfl | rfl | rfl | rfl | rfl | rfl | rfl | rfl | rfl | rfl;all_goals first | exact k3_Made.kept h hb | exact Rows2.kept h hb | exact Whole.kept h hb | exact own_kept (n:=(enc k e s c).length) h hb (by rw [enc_len];decide) | exact h
 ·rw [List.getD_eq_getElem?_getD,List.getElem?_eq_none (by omega)];trivial
theorem fr34 (y:Nat→Value):frameOf 34 y=#[y 0,y 1,y 2,y 3,y 4,y 5,y 6,y 7,y 8,y 9,y 10,y 11,y 12,y 13,y 14,y 15,y 16,y 17,y 18,y 19,y 20,y 21,y 22,y 23,y 24,y 25,y 26,y 27,y 28,y 29,y 30,y 31,y 32,y 33]:=rfl
theorem k3_put_own (k e s c:Int) (w:World) (h:validB k c=true) (e0:0≤e) (e1':e≤18446744073709551615) (s0:0≤s) (s1:s≤18446744073709551615) :
 Calls Tryz.prog 87 #[headV k e s c] w fun r w'=>(∃u,r=.returned (.tuple #[u,.int .i64 0])∧w'.ownsRow w.heap.size 5 1 u 64 ((enc k e s c).map (Value.int .u8)))∧Below w.heap.size w w':=by
 have HV:Hid (∀w1,Calls Tryz.prog 132 #[headV k e s c] w1 fun r w'=>r=.returned (.bool true)∧Below w1.heap.size w1 w'):=Lib.hid (fun w1=>h▸k3_valid_any k e s c w1);obtain ⟨k0,k1,c0,c1⟩:=validB_iff.1 h;clear h;unfold headV at *;go_enter Tryz.func87,Tryz.ntmps87
 go_wp2_with (go_at_call 132;refine (HV.out _).mono ?_);rintro r w1 ⟨rfl,hb⟩;have hbb:Below w.heap.size w w1:=((Below.refl _ _).alloc (Nat.le_refl _) _).trans (hb.mono (by simp));have q0:w1.cell? ⟨w.heap.size,0,none⟩=some (.int .i64 k):=(hb.cell (p:=⟨w.heap.size,0,none⟩) (by simp)).trans (by simp [World.cell?_alloc_at]);have q1:w1.cell? ⟨w.heap.size,1,none⟩=some (.int .u64 e):=(hb.cell (p:=⟨w.heap.size,1,none⟩) (by simp)).trans (by simp [World.cell?_alloc_at]);have q2:w1.cell? ⟨w.heap.size,2,none⟩=some (.int .u64 s):=(hb.cell (p:=⟨w.heap.size,2,none⟩) (by simp)).trans (by simp [World.cell?_alloc_at]);have q3:w1.cell? ⟨w.heap.size,3,none⟩=some (.int .i64 c):=(hb.cell (p:=⟨w.heap.size,3,none⟩) (by simp)).trans (by simp [World.cell?_alloc_at]);have hbs:w.heap.size<w1.heap.size:=by have:=hb.size;simp at this;omega
 clear hb;obtain ⟨b,hbe⟩:∃b,w.heap.size=b:=⟨_,rfl⟩
 rw [hbe] at q0 q1 q2 q3 hbs;go_wp2;refine wp_region_facts (by kernel_rfl) (Kept w1.heap.size 16) (Kept.refl _ _) (fun _ _ _ h h'=>h.trans h') 34 rfl [7,8,9,10,11,12,13,14,15,16,17,18,19,20,21,22,23,24,25,26,27,28,29,30,31,32,33,2,3] (putF w1.heap.size b k e s c) (by kernel_rfl) (putF_mono w1.heap.size b k e s c) ?steps ?fin;case fin=>
  intro v w2 hb2 hF;obtain ⟨u,hu⟩:∃u,v 27=u:=⟨_,rfl⟩
  have h2:Own w1.heap.size (enc k e s c) u w2:=hu▸hF 27 (by decide);unfold Own at h2;rw [enc_len] at h2;have h4:=own_base h2 hbb.size;have h3:v 28=.int .i64 0:=hF 28 (by decide);simp only [putAll,List.set_cons_succ,List.set_cons_zero,Nat.reduceAdd,h3,hu];go_wp2;go_ret2;exact ⟨⟨u,rfl,h4⟩,hbb.drew.trans (hb2.below.mono hbb.size)⟩
 case steps=>
  obtain ⟨B,hBe⟩:∃B,w1.heap.size=B:=⟨_,rfl⟩
  have HC:Hid (∀w2,Kept B 16 w1.drew w2→B≤w2.heap.size∧w2.cell? ⟨b,0,none⟩=some (.int .i64 k)∧w2.cell? ⟨b,1,none⟩=some (.int .u64 e)∧w2.cell? ⟨b,2,none⟩=some (.int .u64 s)∧w2.cell? ⟨b,3,none⟩=some (.int .i64 c)):=Lib.hid (fun w2 hw=>
   ⟨hBe▸hw.size,hw.cell q0,hw.cell q1,hw.cell q2,hw.cell q3⟩)
  rw [hBe];clear q0 q1 q2 q3 HV hbb hbs hbe hBe;refine ⟨?_,?_,?_,?_,?_,?_,?_,?_,?_,?_,?_,?_,?_,?_,?_,?_,?_,?_,?_,?_,?_,?_,?_,?_,?_,?_,?_,?_,?_,trivial⟩;all_goals intro y w2 hb hy0 hp0
  all_goals refine StepG.plain rfl ?_
  all_goals intro K Q hK
  all_goals obtain ⟨hB,q0,q1,q2,q3⟩:=HC.out w2 hb
  all_goals simp only [fr34] at hK⊢
  all_goals have hy:=Lib.hid hy0
  all_goals have hp:=Lib.hid hp0
  all_goals clear hy0 hp0
  ·go_simp;refine hK _ _ ⟨Kept.of_below hB ((Below.refl _ _).alloc (Nat.le_refl _) _),w2.heap.size,(0,0),rfl,hB,heap_alloc_new w2 _⟩
  ·obtain ⟨g,fr,hu,hg1,hg2⟩:Whole B hd0 (y 7) w2:=hp.out 0 (by decide);have hM:Whole B hd0 (y 7) w2:=⟨g,fr,hu,hg1,hg2⟩
   rw [hu] at hK hM⊢;have hrun:=run_convert_own (P:=Tryz.prog) w2 22 5 g hd0.length hd0.length _ fr hg2 Tryz.underlying22 Tryz.underlying5;have hkp:Kept B 16 w2 (w2.freeze ⟨g,((hd0.map (Value.int .u8)).toArray).size,none⟩ 1):=Kept.freeze hg1 hg2 rfl;go_simp;exact hK _ _ ⟨hkp,(hM.kept hkp).made (by decide) (by decide)⟩
  ·have e1:y 1=.pointer (some ⟨b,0,none⟩):=hy.out 1 (by decide);rw [e1] at hK⊢;go_simp;exact hK _ _ ⟨Kept.refl _ _ _,rfl⟩
  ·have e1:y 9=.pointer (some ⟨b,0,none⟩):=hp.out 2 (by decide);rw [e1] at hK⊢;go_simp;exact hK _ _ ⟨Kept.refl _ _ _,rfl⟩
  ·have e1:y 10=.int .i64 k:=hp.out 3 (by decide);have hw:IntKind.u64.wrap k=k:=by rw [IntKind.wrap_u64];omega
   rw [e1] at hK⊢;go_simp;exact hK _ _ ⟨Kept.refl _ _ _,rfl⟩
  ·have e1:y 11=.int .u64 k:=hp.out 4 (by decide);rw [e1] at hK⊢;go_simp;go_at_call 134
   refine (k3_number_ok k 2 _ (by decide) (by omega) (by omega)).mono ?_;rintro r w3 ⟨⟨u,rfl,hm⟩,hb3⟩;exact hK u w3 ⟨Kept.of_below hB hb3,hm⟩
  ·go_simp;go_at_call 134
   refine (k3_number_ok 19823 2 _ (by decide) (by decide) (by decide)).mono ?_;rintro r w3 ⟨⟨u,rfl,hm⟩,hb3⟩;exact hK u w3 ⟨Kept.of_below hB hb3,hm⟩
  ·go_simp;go_at_call 134
   refine (k3_number_ok 1 4 _ (by decide) (by decide) (by decide)).mono ?_;rintro r w3 ⟨⟨u,rfl,hm⟩,hb3⟩;exact hK u w3 ⟨Kept.of_below hB hb3,hm⟩
  ·have e1:y 1=.pointer (some ⟨b,0,none⟩):=hy.out 1 (by decide);rw [e1] at hK⊢;go_simp;exact hK _ _ ⟨Kept.refl _ _ _,rfl⟩
  ·have e1:y 15=.pointer (some ⟨b,1,none⟩):=hp.out 8 (by decide);rw [e1] at hK⊢;go_simp;exact hK _ _ ⟨Kept.refl _ _ _,rfl⟩
  ·have e1:y 16=.int .u64 e:=hp.out 9 (by decide);rw [e1] at hK⊢;go_simp;go_at_call 134
   refine (k3_number_ok e 8 _ (by decide) e0 e1').mono ?_;rintro r w3 ⟨⟨u,rfl,hm⟩,hb3⟩;exact hK u w3 ⟨Kept.of_below hB hb3,hm⟩
  ·have e1:y 1=.pointer (some ⟨b,0,none⟩):=hy.out 1 (by decide);rw [e1] at hK⊢;go_simp;exact hK _ _ ⟨Kept.refl _ _ _,rfl⟩
  ·have e1:y 18=.pointer (some ⟨b,2,none⟩):=hp.out 11 (by decide);rw [e1] at hK⊢;go_simp;exact hK _ _ ⟨Kept.refl _ _ _,rfl⟩
  ·have e1:y 19=.int .u64 s:=hp.out 12 (by decide);rw [e1] at hK⊢;go_simp;go_at_call 134
   refine (k3_number_ok s 8 _ (by decide) s0 s1).mono ?_;rintro r w3 ⟨⟨u,rfl,hm⟩,hb3⟩;exact hK u w3 ⟨Kept.of_below hB hb3,hm⟩
  ·go_simp;go_at_call 134
   refine (k3_number_ok 0 8 _ (by decide) (by decide) (by decide)).mono ?_;rintro r w3 ⟨⟨u,rfl,hm⟩,hb3⟩;exact hK u w3 ⟨Kept.of_below hB hb3,hm⟩
  ·go_simp;go_at_call 134
   refine (k3_number_ok 0 4 _ (by decide) (by decide) (by decide)).mono ?_;rintro r w3 ⟨⟨u,rfl,hm⟩,hb3⟩;exact hK u w3 ⟨Kept.of_below hB hb3,hm⟩
  ·go_simp;go_at_call 134
   refine (k3_number_ok 64 2 _ (by decide) (by decide) (by decide)).mono ?_;rintro r w3 ⟨⟨u,rfl,hm⟩,hb3⟩;exact hK u w3 ⟨Kept.of_below hB hb3,hm⟩
  ·go_simp;go_at_call 134
   refine (k3_number_ok 56 2 _ (by decide) (by decide) (by decide)).mono ?_;rintro r w3 ⟨⟨u,rfl,hm⟩,hb3⟩;exact hK u w3 ⟨Kept.of_below hB hb3,hm⟩
  ·have e1:y 1=.pointer (some ⟨b,0,none⟩):=hy.out 1 (by decide);rw [e1] at hK⊢;go_simp;exact hK _ _ ⟨Kept.refl _ _ _,rfl⟩
  ·have e1:y 25=.pointer (some ⟨b,3,none⟩):=hp.out 18 (by decide);rw [e1] at hK⊢;go_simp;exact hK _ _ ⟨Kept.refl _ _ _,rfl⟩
  ·have e1:y 26=.int .i64 c:=hp.out 19 (by decide);have hw:IntKind.u64.wrap c=c:=by rw [IntKind.wrap_u64];omega
   rw [e1] at hK⊢;go_simp;exact hK _ _ ⟨Kept.refl _ _ _,rfl⟩
  ·have e1:y 27=.int .u64 c:=hp.out 20 (by decide);rw [e1] at hK⊢;go_simp;go_at_call 134
   refine (k3_number_ok c 2 _ (by decide) (by omega) (by omega)).mono ?_;rintro r w3 ⟨⟨u,rfl,hm⟩,hb3⟩;exact hK u w3 ⟨Kept.of_below hB hb3,hm⟩
  ·go_simp;go_at_call 134
   refine (k3_number_ok 0 2 _ (by decide) (by decide) (by decide)).mono ?_;rintro r w3 ⟨⟨u,rfl,hm⟩,hb3⟩;exact hK u w3 ⟨Kept.of_below hB hb3,hm⟩
  ·go_simp;go_at_call 134
   refine (k3_number_ok 0 2 _ (by decide) (by decide) (by decide)).mono ?_;rintro r w3 ⟨⟨u,rfl,hm⟩,hb3⟩;exact hK u w3 ⟨Kept.of_below hB hb3,hm⟩
  ·go_simp;go_at_call 134
   refine (k3_number_ok 0 2 _ (by decide) (by decide) (by decide)).mono ?_;rintro r w3 ⟨⟨u,rfl,hm⟩,hb3⟩;exact hK u w3 ⟨Kept.of_below hB hb3,hm⟩
  ·have m0:k3_Made hd0 (y 8) w2:=hp.out 1 (by decide);have m1:k3_Made (digs k 2) (y 12) w2:=hp.out 5 (by decide);have m2:k3_Made (digs 19823 2) (y 13) w2:=hp.out 6 (by decide);have m3:k3_Made (digs 1 4) (y 14) w2:=hp.out 7 (by decide);have m4:k3_Made (digs e 8) (y 17) w2:=hp.out 10 (by decide);have m5:k3_Made (digs s 8) (y 20) w2:=hp.out 13 (by decide);have m6:k3_Made (digs 0 8) (y 21) w2:=hp.out 14 (by decide);have m7:k3_Made (digs 0 4) (y 22) w2:=hp.out 15 (by decide);have m8:k3_Made (digs 64 2) (y 23) w2:=hp.out 16 (by decide);have m9:k3_Made (digs 56 2) (y 24) w2:=hp.out 17 (by decide);have m10:k3_Made (digs c 2) (y 28) w2:=hp.out 21 (by decide);have m11:k3_Made (digs 0 2) (y 29) w2:=hp.out 22 (by decide);have m12:k3_Made (digs 0 2) (y 30) w2:=hp.out 23 (by decide);have m13:k3_Made (digs 0 2) (y 31) w2:=hp.out 24 (by decide);have M:∀i,i<14→k3_Made ((parts k e s c).getD i []) ([y 8,y 12,y 13,y 14,y 17,y 20,y 21,y 22,y 23,y 24,y 28,y 29,y 30,y 31].getD i undef) w2:=by
    intro i hi;have:i=0∨i=1∨i=2∨i=3∨i=4∨i=5∨i=6∨i=7∨i=8∨i=9∨i=10∨i=11∨i=12∨i=13:=by omega
    rcases this with rfl | rfl | rfl | rfl | rfl | rfl | rfl | rfl | rfl | rfl | rfl | rfl | rfl | rfl;all_goals assumption
   obtain ⟨g0,a0,u0,-⟩:=m0;obtain ⟨g1,a1,u1,-⟩:=m1;obtain ⟨g2,a2,u2,-⟩:=m2;obtain ⟨g3,a3,u3,-⟩:=m3;obtain ⟨g4,a4,u4,-⟩:=m4;obtain ⟨g5,a5,u5,-⟩:=m5;obtain ⟨g6,a6,u6,-⟩:=m6;obtain ⟨g7,a7,u7,-⟩:=m7;obtain ⟨g8,a8,u8,-⟩:=m8;obtain ⟨g9,a9,u9,-⟩:=m9;obtain ⟨g10,a10,u10,-⟩:=m10;obtain ⟨g11,a11,u11,-⟩:=m11;obtain ⟨g12,a12,u12,-⟩:=m12;obtain ⟨g13,a13,u13,-⟩:=m13;rw [u0,u1,u2,u3,u4,u5,u6,u7,u8,u9,u10,u11,u12,u13] at hK M⊢;go_simp;have hkp:=Kept.of_below (m:=16) hB ((Below.refl w2.heap.size w2).alloc (Nat.le_refl _) (.cells #[.slice (some ⟨g0,0,none⟩) hd0.length a0,.slice (some ⟨g1,0,none⟩) (digs k 2).length a1,.slice (some ⟨g2,0,none⟩) (digs 19823 2).length a2,.slice (some ⟨g3,0,none⟩) (digs 1 4).length a3,.slice (some ⟨g4,0,none⟩) (digs e 8).length a4,.slice (some ⟨g5,0,none⟩) (digs s 8).length a5,.slice (some ⟨g6,0,none⟩) (digs 0 8).length a6,.slice (some ⟨g7,0,none⟩) (digs 0 4).length a7,.slice (some ⟨g8,0,none⟩) (digs 64 2).length a8,.slice (some ⟨g9,0,none⟩) (digs 56 2).length a9,.slice (some ⟨g10,0,none⟩) (digs c 2).length a10,.slice (some ⟨g11,0,none⟩) (digs 0 2).length a11,.slice (some ⟨g12,0,none⟩) (digs 0 2).length a12,.slice (some ⟨g13,0,none⟩) (digs 0 2).length a13] 22));refine hK _ _ ⟨hkp,_,w2.heap.size,rfl,⟨?_,fun _=>⟨w2.heap.size,0,rfl,?_,fun i hi=>?_⟩⟩,fun i hi=>(M i hi).kept hkp⟩
   ·rfl
   ·simp
   ·rw [Nat.zero_add,World.cell?_alloc_at _ _ _ _ rfl,←List.getElem?_toArray]
  ·obtain ⟨vs,g,hu,hc,hm⟩:Rows2 (parts k e s c) (y 32) w2:=hp.out 25 (by decide);rw [hu] at hK⊢;go_simp;go_at_call 133
   refine (join_ok _ _ _ _ vs (parts k e s c) _ hc (Nat.le_refl _) (show (14:Int)≤9223372036854775807 by decide) rfl hm (parts_bd k e s c) (by rw [parts_flat,enc_len];decide) (by rw [parts_flat,enc_len];decide)).mono ?_;rintro r w3 ⟨⟨u,rfl,hm⟩,hb3⟩;rw [parts_flat] at hm;exact hK u w3 ⟨Kept.of_below hB hb3,own_base hm hB⟩
  ·have m:Own B (enc k e s c) (y 33) w2:=hp.out 26 (by decide);go_simp;exact hK _ _ ⟨Kept.refl _ _ _,m⟩
  ·go_simp;exact hK _ _ ⟨Kept.refl _ _ _,rfl⟩
theorem k3_put_ok (k e s c:Int) (w:World) (h:validB k c=true) (e0:0≤e) (e1:e≤18446744073709551615) (s0:0≤s) (s1:s≤18446744073709551615) :
 Calls Tryz.prog 87 #[headV k e s c] w fun r w'=>(∃u,r=.returned (.tuple #[u,.int .i64 0])∧k3_Made (enc k e s c) u w')∧Below w.heap.size w w':=
 (k3_put_own k e s c w h e0 e1 s0 s1).mono fun r w' ⟨⟨u,hr,ho⟩,hb⟩=>⟨⟨u,hr,k3_own_made (base:=w.heap.size) (by rw [enc_len];exact ho) (by rw [enc_len];decide) (enc_bd k e s c)⟩,hb⟩
theorem hget_short (a:Option Addr) (len cap:Nat) (w:World) (h:len<64) :
 Calls Tryz.prog 44 #[.slice a len cap] w fun r w'=>r=.returned (.tuple #[headV 0 0 0 0,.int .i64 10])∧Below w.heap.size w w':=by
 have hi:(len:Int)<64:=by omega
 unfold headV;go_enter Tryz.func44,Tryz.ntmps44
 go_wp2;refine bodyPost_ret (v:=.tuple #[.agg #[.int .i64 0,.int .u64 0,.int .u64 0,.int .i64 0],.int .i64 10]) (by simp [results,Tryz.results44,go_sem]) rfl ⟨rfl,?_⟩;first | exact (Below.refl _ _).alloc (Nat.le_refl _) _ | exact ((Below.refl _ _).alloc (Nat.le_refl _) _).setCell (Nat.le_refl _) _
theorem hget_no (B:Nat) (a:Option Addr) (len cap:Nat) (zs:List Int) (w:World) (hb:Bys w B a len zs) (hB:B≤w.heap.size) (hcap:len≤cap) (hcm:(cap:Int)≤9223372036854775807) (h:64≤len) (hv:validB (kOf zs) (cOf zs)=false) :
 Calls Tryz.prog 44 #[.slice a len cap] w fun r w'=>r=.returned (.tuple #[headV 0 0 0 0,.int .i64 11])∧Below w.heap.size w w':=by
 have hi:(64:Int)≤len:=by omega
 have hli:(len:Int)≤9223372036854775807:=by omega
 have HBY:=Lib.hid hb;have HV:=Lib.hid hv;have hk:=kOf_bd hb.2.1 (by have:=hb.1;omega);have hc:=cOf_bd hb.2.1 (by have:=hb.1;omega);have hR:∀w1,Below w.heap.size w w1→Bys w1 B a len zs:=fun w1 h1=>hb.below (h1.mono hB);have HR:=Lib.hid hR;have R1:Hid (∀w1,Below w.heap.size w w1→Calls Tryz.prog 86 #[.slice a len cap,.int .u64 16,.int .i64 2] w1 fun e w'=>e=.returned (.int .u64 (kOf zs))∧w1=w'):=Lib.hid (fun w1 h1=>k3_read_ok B a len cap zs 16 2 w1 (hR w1 h1) (by decide) hli (by omega));have R2:Hid (∀w1,Below w.heap.size w w1→Calls Tryz.prog 86 #[.slice a len cap,.int .u64 24,.int .i64 8] w1 fun e w'=>e=.returned (.int .u64 (eOf zs))∧w1=w'):=Lib.hid (fun w1 h1=>k3_read_ok B a len cap zs 24 8 w1 (hR w1 h1) (by decide) hli (by omega));have R3:Hid (∀w1,Below w.heap.size w w1→Calls Tryz.prog 86 #[.slice a len cap,.int .u64 32,.int .i64 8] w1 fun e w'=>e=.returned (.int .u64 (sOf zs))∧w1=w'):=Lib.hid (fun w1 h1=>k3_read_ok B a len cap zs 32 8 w1 (hR w1 h1) (by decide) hli (by omega));have R4:Hid (∀w1,Below w.heap.size w w1→Calls Tryz.prog 86 #[.slice a len cap,.int .u64 56,.int .i64 2] w1 fun e w'=>e=.returned (.int .u64 (cOf zs))∧w1=w'):=Lib.hid (fun w1 h1=>k3_read_ok B a len cap zs 56 2 w1 (hR w1 h1) (by decide) hli (by omega));obtain ⟨hk0,hk1⟩:=hk;obtain ⟨hc0,hc1⟩:=hc;have HBL:Hid (∀o,Below w.heap.size w (w.alloc o)):=Lib.hid (fun o=>(Below.refl _ _).alloc (Nat.le_refl _) o);clear hb hv hR;unfold headV at *;go_enter Tryz.func44,Tryz.ntmps44
 go_wp2_with (first | (go_at_call 86;with_reducible refine (R1.out _ (HBL.out _)).mono ?_;rintro r w' ⟨rfl,rfl⟩) | (go_at_call 86;with_reducible refine (R2.out _ (HBL.out _)).mono ?_;rintro r w' ⟨rfl,rfl⟩) | (go_at_call 86;with_reducible refine (R3.out _ (HBL.out _)).mono ?_;rintro r w' ⟨rfl,rfl⟩) | (go_at_call 86;with_reducible refine (R4.out _ (HBL.out _)).mono ?_;rintro r w' ⟨rfl,rfl⟩) | (go_at_call 87;refine Calls.mono (put_arg _ _ _ _ _ HV.out) ?_));rintro r w2 ⟨rfl,hb⟩;have hbb:Below w.heap.size w w2:=(((Below.refl _ _).alloc (Nat.le_refl _) _).alloc (by simp) _).trans (hb.mono (by simp;omega));obtain ⟨q0,q1,q2,q3⟩:=(((Blk.new w _ _).alloc _).later hb).c4;obtain ⟨f0,f1,f2,f3⟩:=(((Blk.new w _ _).alloc _).later hb).f4;clear hb;go_wp2;refine bodyPost_ret (v:=.tuple #[.agg #[.int .i64 0,.int .u64 0,.int .u64 0,.int .i64 0],.int .i64 11]) (by simp [results,Tryz.results44,go_sem,q0,q1,q2,q3]) rfl ⟨rfl,?_⟩;exact (((hbb.setCell (Nat.le_refl _) _).setCell (Nat.le_refl _) _).setCell (Nat.le_refl _) _).setCell (Nat.le_refl _) _
theorem hget_yes (B:Nat) (a:Option Addr) (len cap:Nat) (zs:List Int) (w:World) (hb:Bys w B a len zs) (hB:B≤w.heap.size) (hcap:len≤cap) (hcm:(cap:Int)≤9223372036854775807) (h:64≤len) (hv:validB (kOf zs) (cOf zs)=true) (y:Bool) (hy:decide (enc (kOf zs) (eOf zs) (sOf zs) (cOf zs)=piece zs 0 64)=y) :
 Calls Tryz.prog 44 #[.slice a len cap] w fun r w'=>r=.returned (if y then .tuple #[headV (kOf zs) (eOf zs) (sOf zs) (cOf zs),.int .i64 0] else .tuple #[headV 0 0 0 0,.int .i64 11])∧Below w.heap.size w w':=by
 have hi:(64:Int)≤len:=by omega
 have hli:(len:Int)≤9223372036854775807:=by omega
 have hci:(64:Int)≤cap:=by omega
 obtain ⟨b,off,rfl,-,-⟩:=hb.2.2 (by omega);have hk:=kOf_bd hb.2.1 (by have:=hb.1;omega);have hc:=cOf_bd hb.2.1 (by have:=hb.1;omega);have he:=eOf_bd hb.2.1 (by have:=hb.1;omega);have hs:=sOf_bd hb.2.1 (by have:=hb.1;omega);have hR:∀w1,Below w.heap.size w w1→Bys w1 B (some ⟨b,off,none⟩) len zs:=fun w1 h1=>hb.below (h1.mono hB);have R1:Hid (∀w1,Below w.heap.size w w1→Calls Tryz.prog 86 #[.slice (some ⟨b,off,none⟩) len cap,.int .u64 16,.int .i64 2] w1 fun e w'=>e=.returned (.int .u64 (kOf zs))∧w1=w'):=Lib.hid (fun w1 h1=>k3_read_ok B _ len cap zs 16 2 w1 (hR w1 h1) (by decide) hli (by omega));have R2:Hid (∀w1,Below w.heap.size w w1→Calls Tryz.prog 86 #[.slice (some ⟨b,off,none⟩) len cap,.int .u64 24,.int .i64 8] w1 fun e w'=>e=.returned (.int .u64 (eOf zs))∧w1=w'):=Lib.hid (fun w1 h1=>k3_read_ok B _ len cap zs 24 8 w1 (hR w1 h1) (by decide) hli (by omega));have R3:Hid (∀w1,Below w.heap.size w w1→Calls Tryz.prog 86 #[.slice (some ⟨b,off,none⟩) len cap,.int .u64 32,.int .i64 8] w1 fun e w'=>e=.returned (.int .u64 (sOf zs))∧w1=w'):=Lib.hid (fun w1 h1=>k3_read_ok B _ len cap zs 32 8 w1 (hR w1 h1) (by decide) hli (by omega));have R4:Hid (∀w1,Below w.heap.size w w1→Calls Tryz.prog 86 #[.slice (some ⟨b,off,none⟩) len cap,.int .u64 56,.int .i64 2] w1 fun e w'=>e=.returned (.int .u64 (cOf zs))∧w1=w'):=Lib.hid (fun w1 h1=>k3_read_ok B _ len cap zs 56 2 w1 (hR w1 h1) (by decide) hli (by omega));have RP:Hid (∀w1,Calls Tryz.prog 87 #[headV (kOf zs) (eOf zs) (sOf zs) (cOf zs)] w1 fun r w'=>(∃u,r=.returned (.tuple #[u,.int .i64 0])∧k3_Made (enc (kOf zs) (eOf zs) (sOf zs) (cOf zs)) u w')∧Below w1.heap.size w1 w'):=Lib.hid (fun w1=>k3_put_ok _ _ _ _ w1 hv he.1 he.2 hs.1 hs.2);have RE:Hid (∀w1 g c,Below w.heap.size w w1→Bys w1 w1.heap.size (some ⟨g,0,none⟩) 64 (enc (kOf zs) (eOf zs) (sOf zs) (cOf zs))→Calls Tryz.prog 88 #[.slice (some ⟨g,0,none⟩) 64 c,.slice (some ⟨b,off,none⟩) 64 cap] w1 fun r w'=>r=.returned (.bool y)∧w1=w'):=Lib.hid (fun w1 g c h1 hm=>by
  have:=equal_any _ _ _ _ 64 64 c cap _ _ w1 hm ((hR w1 h1).sub (p:=0) (n:=64) (by omega));rw [hy] at this;exact this)
 obtain ⟨hk0,hk1⟩:=hk;obtain ⟨hc0,hc1⟩:=hc;have HBL:Hid (∀o,Below w.heap.size w (w.alloc o)):=Lib.hid (fun o=>(Below.refl _ _).alloc (Nat.le_refl _) o);have HEL:=Lib.hid (enc_len (kOf zs) (eOf zs) (sOf zs) (cOf zs));clear hb hv hR hy he hs;unfold headV at *;go_enter Tryz.func44,Tryz.ntmps44
 go_wp2_with (first | (go_at_call 86;with_reducible refine (R1.out _ (HBL.out _)).mono ?_;rintro r w' ⟨rfl,rfl⟩) | (go_at_call 86;with_reducible refine (R2.out _ (HBL.out _)).mono ?_;rintro r w' ⟨rfl,rfl⟩) | (go_at_call 86;with_reducible refine (R3.out _ (HBL.out _)).mono ?_;rintro r w' ⟨rfl,rfl⟩) | (go_at_call 86;with_reducible refine (R4.out _ (HBL.out _)).mono ?_;rintro r w' ⟨rfl,rfl⟩) | (go_at_call 87;refine Calls.mono (RP.out _) ?_));rintro r w2 ⟨⟨u,rfl,g,c,rfl,_,_,hm⟩,hb⟩;rw [HEL.out] at hm⊢;have hbb:Below w.heap.size w w2:=(((Below.refl _ _).alloc (Nat.le_refl _) _).alloc (by simp) _).trans (hb.mono (by simp;omega));obtain ⟨q0,q1,q2,q3⟩:=(((Blk.new w _ _).alloc _).later hb).c4;obtain ⟨f0,f1,f2,f3⟩:=(((Blk.new w _ _).alloc _).later hb).f4;obtain ⟨p0,p1,p2,p3⟩:=((Blk.new (w.alloc _) _ _).later hb).c4;simp only [World.size_alloc] at p0 p1 p2 p3;have HM:=Lib.hid hm;have HBB:=Lib.hid hbb;clear hb hm hbb;cases y with
 | true=>
   go_wp2_with (go_at_call 88;refine (RE.out _ _ _ HBB.out HM.out).mono ?_;rintro r w' ⟨rfl,rfl⟩);refine bodyPost_ret (v:=.tuple #[.agg #[.int .i64 (kOf zs),.int .u64 (eOf zs),.int .u64 (sOf zs),.int .i64 (cOf zs)],.int .i64 0]) (by simp [results,Tryz.results44,go_sem,q0,q1,q2,q3]) rfl ⟨rfl,?_⟩;exact (((HBB.out.setCell (Nat.le_refl _) _).setCell (Nat.le_refl _) _).setCell (Nat.le_refl _) _).setCell (Nat.le_refl _) _
 | false=>
   go_wp2_with (go_at_call 88;refine (RE.out _ _ _ HBB.out HM.out).mono ?_;rintro r w' ⟨rfl,rfl⟩);refine bodyPost_ret (v:=.tuple #[.agg #[.int .i64 0,.int .u64 0,.int .u64 0,.int .i64 0],.int .i64 11]) (by simp [results,Tryz.results44,go_sem,q0,q1,q2,q3]) rfl ⟨rfl,?_⟩;exact (((HBB.out.setCell (Nat.le_refl _) _).setCell (Nat.le_refl _) _).setCell (Nat.le_refl _) _).setCell (Nat.le_refl _) _
theorem hget_any (B:Nat) (a:Option Addr) (len cap:Nat) (zs:List Int) (w:World) (hb:Bys w B a len zs) (hB:B≤w.heap.size) (hcap:len≤cap) (hcm:(cap:Int)≤9223372036854775807) :
 Calls Tryz.prog 44 #[.slice a len cap] w fun r w'=>r=.returned (k3_getV zs)∧Below w.heap.size w w':=by
 have hz:=hb.1;unfold k3_getV;by_cases h:zs.length<64
 ·rw [if_pos h];exact hget_short a len cap w (by omega)
 ·rw [if_neg h];cases hv:validB (kOf zs) (cOf zs) with
  | false=>
    have:isHead zs=false:=by unfold isHead;rw [hv];rfl
    rw [this];exact hget_no B a len cap zs w hb hB hcap hcm (by omega) hv
  | true=>
    have:isHead zs=decide (enc (kOf zs) (eOf zs) (sOf zs) (cOf zs)=piece zs 0 64):=by unfold isHead;rw [hv];rfl
    exact hget_yes B a len cap zs w hb hB hcap hcm (by omega) hv (isHead zs) this.symm



theorem hget_f {zs:List Int} {k e s c er:Int} (h:k3_getV zs=.tuple #[.agg #[.int .i64 k,.int .u64 e,.int .u64 s,.int .i64 c],.int .i64 er]) (B:Nat) (a:Option Addr) (len cap:Nat) (w:World) (hb:Bys w B a len zs) (hB:B≤w.heap.size) (hcap:len≤cap) (hcm:(cap:Int)≤9223372036854775807) :
 Calls Tryz.prog 44 #[.slice a len cap] w fun r w'=>r=.returned (.tuple #[.agg #[.int .i64 k,.int .u64 e,.int .u64 s,.int .i64 c],.int .i64 er])∧Below w.heap.size w w':=
 h▸hget_any B a len cap zs w hb hB hcap hcm
theorem cutI_any (B:Nat) (a:Option Addr) (len cap:Nat) (zs:List Int) (p s:Int) (w:World) (hb:Bys w B a len zs) (hB:B≤w.heap.size) (hcap:len≤cap) (hcm:(cap:Int)≤9223372036854775807) (hl:len≤140737488355328) (p0:0≤p) (p1:p≤18446744073709551615) (s0:0≤s) (s1:s≤18446744073709551615) :
 Calls Tryz.prog 49 #[.slice a len cap,.int .u64 p,.int .u64 s] w (CutPost (cutI zs p s) w):=by
 have hz:=hb.1;unfold cutI;by_cases h:(zs.length:Int)<p+s
 ·rw [if_pos h];refine (cut_range a len cap p s w (by omega) p0 p1 s0 s1 (by omega)).mono ?_;rintro e w' ⟨rfl,rfl⟩;exact ⟨⟨_,rfl,World.ownsRow_nil _ _ _ _⟩,Below.refl _ _⟩
 ·rw [if_neg h];obtain ⟨P,rfl⟩:=Int.eq_ofNat_of_zero_le p0;obtain ⟨S,rfl⟩:=Int.eq_ofNat_of_zero_le s0;rw [Int.toNat_natCast,Int.toNat_natCast];refine (cut_ok B a len cap zs P S w hb hB hcap hcm hl (by omega)).mono ?_;rintro e w' ⟨rfl,ho,hbel⟩;refine ⟨⟨_,rfl,?_⟩,hbel⟩;have e:(piece zs P S).length=S:=piece_len (by omega);rw [e];exact ho
theorem loaded9_any (g:Nat) (p:Pz) (m:Pm) (addr size:Int) (w:World) (h:Ps9 g w p m) (a0:0≤addr) (a1:addr≤18446744073709551615) (s0:0≤size) (s1:size≤18446744073709551615) :
 Calls Tryz.prog 100 #[.pointer (some ⟨g,0,none⟩),.int .u64 addr,.int .u64 size] w (CutPost (bytesI m.m.sg m.m.zs addr size) w):=by
 have HPL:Hid (Calls Tryz.prog 141 #[.slice p.x.sg.a p.x.sg.n p.x.sg.c,.int .u64 addr,.int .u64 size] w fun e w'=>e=.returned (.tuple #[.int .u64 (placeI m.m.sg addr size).2,.int .i64 (placeI m.m.sg addr size).1])∧Below w.heap.size w w'):=Lib.hid (by
  have:=splace_any w.heap.size p.x.sg.a p.x.sg.n p.x.sg.c m.m.sg addr size w h.seg.1 (Nat.le_refl _) (by have h1:=h.seg.2.1;have h2:=h.seg.2.2;omega) a0 a1 s0 s1;rw [placeV_eq] at this;exact this)
 have HCU:Hid (∀w1,Below w.heap.size w w1→Calls Tryz.prog 49 #[.slice p.x.zs.a p.x.zs.n p.x.zs.c,.int .u64 (placeI m.m.sg addr size).2,.int .u64 size] w1 (CutPost (cutI m.m.zs (placeI m.m.sg addr size).2 size) w1)):=Lib.hid (fun w1 h1=>by
  have h2:=h.bys;exact cutI_any w.heap.size p.x.zs.a p.x.zs.n p.x.zs.c m.m.zs _ size w1 (h2.1.below h1) h1.size h2.2.1 h2.2.2.1 (by omega) (placeI_bd _ _ _).1 (placeI_bd _ _ _).2 s0 s1)
 have HK:Hid (∀w1,Below w.heap.size w w1→Blk w1 g p.cells 72):=Lib.hid (fun w1 h1=>h.box.later h1);have hgl:=h.lt;unfold bytesI;generalize placeI m.m.sg addr size=P at HPL HCU;generalize cutI m.m.zs P.2 size=Z at HCU;obtain ⟨pe,pp⟩:=P;obtain ⟨⟨k,e,s,c,⟨sga,sgn,sgc⟩,so,⟨nda,ndn,ndc⟩,⟨nma,nmn,nmc⟩,⟨sya,syn,syc⟩,⟨rla,rln,rlc⟩,⟨zsa,zsn,zsc⟩⟩,⟨fia,fin,fic⟩,⟨n0,n1,n2⟩,v0,v1,v2,v3,v4,v5,v6,⟨tba,tbn,tbc⟩⟩:=p;clear h;simp only at HPL HCU⊢;have q4:w.cell? ⟨g,4,none⟩=some (.slice sga sgn sgc):=(HK.out w (Below.refl _ _)).cell 4;by_cases hpe:pe=0
 ·subst hpe;rw [if_neg (by simp)];go_enter Tryz.func100,Tryz.ntmps100
  go_wp2_with fail;refine HPL.out.mono ?_;rintro r w2 ⟨rfl,hb2⟩;have HB2:=Lib.hid hb2;have q10:w2.cell? ⟨g,10,none⟩=some (.slice zsa zsn zsc):=(HK.out w2 hb2).cell 10;have hgl2:=(HK.out w2 hb2).lt;clear hb2;go_wp2_with fail;refine (HCU.out _ HB2.out).mono ?_;rintro r w3 ⟨⟨u,rfl,ho⟩,hb3⟩;have HO:=Lib.hid (own_base ho HB2.out.size);have HB3:=Lib.hid (HB2.out.trans (hb3.mono HB2.out.size));clear ho hb3;go_wp2;go_ret2;exact ⟨⟨_,rfl,HO.out⟩,HB3.out⟩
 ·rw [if_pos hpe];have hpb:(pe != 0)=true:=by simpa using hpe
  go_enter Tryz.func100,Tryz.ntmps100
  go_wp2_with fail;refine HPL.out.mono ?_;rintro r w2 ⟨rfl,hb2⟩;have HB2:=Lib.hid hb2;clear hb2;go_wp2;go_ret2;exact ⟨⟨_,rfl,World.ownsRow_nil _ _ _ _⟩,HB2.out⟩
def takeI (m:Pm):Int×Pm:=if 65536<m.f.length then (13,m) else (0,{ m with m:={ m.m with zs:=m.f } })
theorem take9_ok (g:Nat):StepOk g 19 takeI:=by
 intro p m w h;have H:=Lib.hid h;have hfl:=h.fil.1;have hgl:=h.lt;have HK:Hid (∀w1,Below w.heap.size w w1→Blk w1 g p.cells 72):=Lib.hid (fun w1 h1=>h.box.later h1);obtain ⟨p,hp⟩:∃q:Pz,q=p:=⟨_,rfl⟩
 obtain ⟨⟨k,e,s,c,⟨sga,sgn,sgc⟩,so,⟨nda,ndn,ndc⟩,⟨nma,nmn,nmc⟩,⟨sya,syn,syc⟩,⟨rla,rln,rlc⟩,⟨zsa,zsn,zsc⟩⟩,⟨fia,fin,fic⟩,⟨n0,n1,n2⟩,v0,v1,v2,v3,v4,v5,v6,⟨tba,tbn,tbc⟩⟩:=p;subst hp;have q11:w.cell? ⟨g,11,none⟩=some (.slice fia fin fic):=h.box.cell 11;simp only at hfl;have hfm:(fin:Int)≤9223372036854775807:=by have h1:=h.fok.le;have h2:=h.fok.max;simp only at h1 h2;omega
 unfold takeI;rw [hfl];by_cases hb:65536<fin
 ·have hbi:(65536:Int)<fin:=by omega
  rw [if_pos hb];clear h;go_enter Tryz.func19,Tryz.ntmps19
  go_wp2;go_ret;exact ⟨rfl,fun e=>(by cases e),Kq.refl _ _⟩
 ·have hbi:(fin:Int)≤65536:=by omega
  rw [if_neg hb];have HCL:=Lib.hid (iclone_ok g fia fin fic m.f w h.fil (Nat.le_of_lt hgl) h.fnl (by omega));have HFL:=Lib.hid hfl;clear h hfl;go_enter Tryz.func19,Tryz.ntmps19
  go_wp2_with fail;refine HCL.out.mono ?_;rintro r w2 ⟨⟨u,rfl,hu⟩,hb2⟩;unfold Rb at hu;obtain ⟨ua,uc,rfl⟩:=own_slice hu;have HU:=Lib.hid (own_base hu (show g+1≤w.heap.size from hgl));have HB2:=Lib.hid hb2;have hbx:=HK.out w2 hb2;obtain ⟨q10,f10⟩:w2.cell? ⟨g,10,none⟩=some (.slice zsa zsn zsc)∧w2.frozen? ⟨g,10,none⟩=false:=⟨hbx.cell 10,hbx.frozen 10⟩
  have hgl2:=hbx.lt;have HBX:=Lib.hid (hbx.set 10 (.slice ua m.f.length uc));clear hu hb2 hbx;go_wp2;go_ret;have hk:Kq g w (w2.setCell ⟨g,10,none⟩ (.slice ua m.f.length uc)):=(Kq.later (Nat.le_of_lt hgl) HB2.out).set 10 _;refine ⟨rfl,fun _=>⟨⟨⟨k,e,s,c,⟨sga,sgn,sgc⟩,so,⟨nda,ndn,ndc⟩,⟨nma,nmn,nmc⟩,⟨sya,syn,syc⟩,⟨rla,rln,rlc⟩,⟨ua,m.f.length,uc⟩⟩,⟨fia,fin,fic⟩,⟨n0,n1,n2⟩,v0,v1,v2,v3,v4,v5,v6,⟨tba,tbn,tbc⟩⟩,?_⟩,hk⟩;have hr:=H.out.row.kp hk.kp (Nat.lt_succ_self _);refine H.out.next hk HBX.out { hr with zs:=own_kp (Kp.set (Kp.refl g w2) 10 _) HU.out (Nat.lt_succ_self _),okz:=H.out.fil.2.1,lz:=by simp only;rw [HFL.out];omega } rfl rfl
def headI (m:Pm):Int×Pm:=
 if m.m.zs.length<64 then (10,m) else if isHead m.m.zs=false then (11,m)
 else if kOf m.m.zs=2∨kOf m.m.zs=3 then (0,{ m with m:={ m.m with k:=kOf m.m.zs,e:=eOf m.m.zs,s:=sOf m.m.zs,c:=cOf m.m.zs } }) else (11,m)
theorem maybe9_any (k:Int) (w:World):Calls Tryz.prog 45 #[.int .i64 k] w fun r w'=>r=.returned (.bool (k==2 || k==3))∧w=w':=by
 by_cases h2:k=2
 ·subst h2;go_enter Tryz.func45,Tryz.ntmps45
  go_wp2;go_ret;exact ⟨rfl,rfl⟩
 ·have h2b:(k==2)=false:=by simpa using h2
  by_cases h3:k=3
  ·subst h3;go_enter Tryz.func45,Tryz.ntmps45
   go_wp2;go_ret;exact ⟨rfl,rfl⟩
  ·have h3b:(k==3)=false:=by simpa using h3
   go_enter Tryz.func45,Tryz.ntmps45
   go_wp2;go_ret;exact ⟨by rw [h2b,h3b];rfl,rfl⟩
theorem hget9 (zs:List Int):∃k e s c er:Int,k3_getV zs=.tuple #[.agg #[.int .i64 k,.int .u64 e,.int .u64 s,.int .i64 c],.int .i64 er]∧
 ((zs.length<64∧er=10)∨(64≤zs.length∧isHead zs=false∧er=11)∨(64≤zs.length∧isHead zs=true∧er=0∧k=kOf zs∧e=eOf zs∧s=sOf zs∧c=cOf zs)):=by
 unfold k3_getV;by_cases h:zs.length<64
 ·rw [if_pos h];exact ⟨0,0,0,0,10,rfl,.inl ⟨h,rfl⟩⟩
 ·rw [if_neg h];cases hi:isHead zs with
  | true=>rw [if_pos rfl];exact ⟨_,_,_,_,0,rfl,.inr (.inr ⟨by omega,rfl,rfl,rfl,rfl,rfl,rfl⟩)⟩
  | false=>rw [if_neg (by decide)];exact ⟨0,0,0,0,11,rfl,.inr (.inl ⟨by omega,rfl,rfl⟩)⟩
theorem Blk.head9 {w:World} {g:Nat} {t:TypeId} {z0 z1 z2 z3:Value} {C:List Value} (h:Blk w g ⟨z0 :: z1 :: z2 :: z3 :: C⟩ t) (v0 v1 v2 v3:Value):Blk ((((w.setCell ⟨g,0,none⟩ v0).setCell ⟨g,1,none⟩ v1).setCell ⟨g,2,none⟩ v2).setCell ⟨g,3,none⟩ v3) g ⟨v0 :: v1 :: v2 :: v3 :: C⟩ t:=by
 have h1:Blk (w.setCell ⟨g,0,none⟩ v0) g ⟨v0 :: z1 :: z2 :: z3 :: C⟩ t:=by have q:=h.set 0 v0;simpa using q
 have h2:Blk ((w.setCell ⟨g,0,none⟩ v0).setCell ⟨g,1,none⟩ v1) g ⟨v0 :: v1 :: z2 :: z3 :: C⟩ t:=by have q:=h1.set 1 v1;simpa using q
 have h3:Blk (((w.setCell ⟨g,0,none⟩ v0).setCell ⟨g,1,none⟩ v1).setCell ⟨g,2,none⟩ v2) g ⟨v0 :: v1 :: v2 :: z3 :: C⟩ t:=by have q:=h2.set 2 v2;simpa using q
 have q:=h3.set 3 v3;simpa using q
theorem head9_ok (g:Nat):StepOk g 20 headI:=by
 intro p m w h;have H:=Lib.hid h;have hgl:=h.lt;have HK:Hid (∀w1,Below w.heap.size w w1→Blk w1 g p.cells 72):=Lib.hid (fun w1 h1=>h.box.later h1);obtain ⟨hk,he,hs,hc,er,hg,hcase⟩:=hget9 m.m.zs;have HG:=Lib.hid (hget_f hg w.heap.size p.x.zs.a p.x.zs.n p.x.zs.c w h.bys.1 (Nat.le_refl _) h.bys.2.1 h.bys.2.2.1);obtain ⟨⟨k,e,s,c,⟨sga,sgn,sgc⟩,so,⟨nda,ndn,ndc⟩,⟨nma,nmn,nmc⟩,⟨sya,syn,syc⟩,⟨rla,rln,rlc⟩,⟨zsa,zsn,zsc⟩⟩,⟨fia,fin,fic⟩,⟨n0,n1,n2⟩,v0,v1,v2,v3,v4,v5,v6,⟨tba,tbn,tbc⟩⟩:=p;clear h hg;have q10:w.cell? ⟨g,10,none⟩=some (.slice zsa zsn zsc):=(HK.out w (Below.refl _ _)).cell 10;simp only at HG;have HCASE:=Lib.hid hcase;clear hcase;have HEND:Hid (∀w2,Below w.heap.size w w2→Blk ((((w2.setCell ⟨g,0,none⟩ (.int .i64 hk)).setCell ⟨g,1,none⟩ (.int .u64 he)).setCell ⟨g,2,none⟩ (.int .u64 hs)).setCell ⟨g,3,none⟩ (.int .i64 hc)) g #[.int .i64 hk,.int .u64 he,.int .u64 hs,.int .i64 hc,.slice sga sgn sgc,.string so,.slice nda ndn ndc,.slice nma nmn nmc,.slice sya syn syc,.slice rla rln rlc,.slice zsa zsn zsc,.slice fia fin fic,.slice n0 n1 n2,.int .u64 v0,.int .u64 v1,.int .u64 v2,.int .u64 v3,.int .u64 v4,.int .u64 v5,.int .u64 v6,.slice tba tbn tbc] 72∧Kq g w ((((w2.setCell ⟨g,0,none⟩ (.int .i64 hk)).setCell ⟨g,1,none⟩ (.int .u64 he)).setCell ⟨g,2,none⟩ (.int .u64 hs)).setCell ⟨g,3,none⟩ (.int .i64 hc))):=Lib.hid (fun w2 h2=>
  ⟨(HK.out w2 h2).head9 _ _ _ _,((((Kq.later (Nat.le_of_lt hgl) h2).set 0 _).set 1 _).set 2 _).set 3 _⟩)
 have HPS:Hid (hk=kOf m.m.zs→he=eOf m.m.zs→hs=sOf m.m.zs→hc=cOf m.m.zs→u64B hs→∀w3,Blk w3 g #[.int .i64 hk,.int .u64 he,.int .u64 hs,.int .i64 hc,.slice sga sgn sgc,.string so,.slice nda ndn ndc,.slice nma nmn nmc,.slice sya syn syc,.slice rla rln rlc,.slice zsa zsn zsc,.slice fia fin fic,.slice n0 n1 n2,.int .u64 v0,.int .u64 v1,.int .u64 v2,.int .u64 v3,.int .u64 v4,.int .u64 v5,.int .u64 v6,.slice tba tbn tbc] 72→Kq g w w3→Ps9 g w3 ⟨⟨hk,he,hs,hc,⟨sga,sgn,sgc⟩,so,⟨nda,ndn,ndc⟩,⟨nma,nmn,nmc⟩,⟨sya,syn,syc⟩,⟨rla,rln,rlc⟩,⟨zsa,zsn,zsc⟩⟩,⟨fia,fin,fic⟩,⟨n0,n1,n2⟩,v0,v1,v2,v3,v4,v5,v6,⟨tba,tbn,tbc⟩⟩ { m with m:={ m.m with k:=kOf m.m.zs,e:=eOf m.m.zs,s:=sOf m.m.zs,c:=cOf m.m.zs } }):=Lib.hid (fun e1 e2 e3 e4 e5 w3 hb hq=>H.out.next hq hb { H.out.row.kp hq.kp (Nat.lt_succ_self _) with k:=e1,e:=e2,s:=e3,c:=e4,bs:=e5 } rfl rfl);have HZ:=Lib.hid H.out.row.okz;obtain ⟨Z,hZ⟩:∃Z,headI m=Z:=⟨_,rfl⟩
 have HZD:=Lib.hid hZ;rw [hZ];clear hZ;have HMB:=Lib.hid (fun w1=>maybe9_any hk w1);by_cases her:er=0
 ·subst her;obtain ⟨hl,hih,e1,e2,e3,e4⟩:64≤m.m.zs.length∧isHead m.m.zs=true∧hk=kOf m.m.zs∧he=eOf m.m.zs∧hs=sOf m.m.zs∧hc=cOf m.m.zs:=by
   rcases HCASE.out with ⟨-,h⟩ | ⟨-,-,h⟩ | ⟨h1,h2,-,h3,h4,h5,h6⟩
   ·cases h
   ·cases h
   ·exact ⟨h1,h2,h3,h4,h5,h6⟩
  have HPS2:=Lib.hid (HPS.out e1 e2 e3 e4 (by rw [e3];exact sOf_bd HZ.out hl));have HZ2:Hid (Z=if hk=2∨hk=3 then (0,{ m with m:={ m.m with k:=kOf m.m.zs,e:=eOf m.m.zs,s:=sOf m.m.zs,c:=cOf m.m.zs } }) else (11,m)):=Lib.hid (by rw [←HZD.out];unfold headI;rw [if_neg (by omega),if_neg (by rw [hih];decide),e1]);clear HPS e1 e2 e3 e4 hl hih HZD HCASE HZ;by_cases hm:hk=2∨hk=3
  ·have hb:(hk==2 || hk==3)=true:=by rcases hm with h | h<;>rw [h]<;>rfl
   have hZ:=HZ2.out;rw [if_pos hm] at hZ;subst hZ;rw [hb] at HMB;clear hm hb;go_enter Tryz.func20,Tryz.ntmps20
   go_wp2_with fail;refine HG.out.mono ?_;rintro r w2 ⟨rfl,hb2⟩;obtain ⟨hbx,hkq⟩:=HEND.out w2 hb2;have HBX:=Lib.hid hbx;have HKQ:=Lib.hid hkq;have hbo:=HK.out w2 hb2;obtain ⟨p0,p1,p2,p3⟩:w2.cell? ⟨g,0,none⟩=some (.int .i64 k)∧w2.cell? ⟨g,1,none⟩=some (.int .u64 e)∧w2.cell? ⟨g,2,none⟩=some (.int .u64 s)∧w2.cell? ⟨g,3,none⟩=some (.int .i64 c):=⟨hbo.cell 0,hbo.cell 1,hbo.cell 2,hbo.cell 3⟩
   obtain ⟨f0,f1,f2,f3⟩:w2.frozen? ⟨g,0,none⟩=false∧w2.frozen? ⟨g,1,none⟩=false∧w2.frozen? ⟨g,2,none⟩=false∧w2.frozen? ⟨g,3,none⟩=false:=⟨hbo.frozen 0,hbo.frozen 1,hbo.frozen 2,hbo.frozen 3⟩
   have hgl2:=hbo.lt;have z0:=hbx.cell 0;clear hb2 hbx hkq hbo;go_wp2_with fail;refine (HMB.out _).mono ?_;rintro r w3 ⟨rfl,rfl⟩;go_wp2;go_ret;exact ⟨rfl,fun _=>⟨_,HPS2.out _ HBX.out HKQ.out⟩,HKQ.out⟩
  ·have hb:(hk==2 || hk==3)=false:=by rw [Bool.eq_false_iff];intro h;apply hm;simpa using h
   have hZ:=HZ2.out;rw [if_neg hm] at hZ;subst hZ;rw [hb] at HMB;clear hm hb;go_enter Tryz.func20,Tryz.ntmps20
   go_wp2_with fail;refine HG.out.mono ?_;rintro r w2 ⟨rfl,hb2⟩;obtain ⟨hbx,hkq⟩:=HEND.out w2 hb2;have HKQ:=Lib.hid hkq;have hbo:=HK.out w2 hb2;obtain ⟨p0,p1,p2,p3⟩:w2.cell? ⟨g,0,none⟩=some (.int .i64 k)∧w2.cell? ⟨g,1,none⟩=some (.int .u64 e)∧w2.cell? ⟨g,2,none⟩=some (.int .u64 s)∧w2.cell? ⟨g,3,none⟩=some (.int .i64 c):=⟨hbo.cell 0,hbo.cell 1,hbo.cell 2,hbo.cell 3⟩
   obtain ⟨f0,f1,f2,f3⟩:w2.frozen? ⟨g,0,none⟩=false∧w2.frozen? ⟨g,1,none⟩=false∧w2.frozen? ⟨g,2,none⟩=false∧w2.frozen? ⟨g,3,none⟩=false:=⟨hbo.frozen 0,hbo.frozen 1,hbo.frozen 2,hbo.frozen 3⟩
   have hgl2:=hbo.lt;have z0:=hbx.cell 0;clear hb2 hbx hkq hbo;go_wp2_with fail;refine (HMB.out _).mono ?_;rintro r w3 ⟨rfl,rfl⟩;go_wp2;go_ret;exact ⟨rfl,fun e=>(by cases e),HKQ.out⟩
 ·have hZ:Z=(er,m):=by
   rw [←HZD.out];unfold headI;rcases HCASE.out with ⟨h1,h2⟩ | ⟨h1,h2,h3⟩ | ⟨-,-,h,-⟩
   ·rw [if_pos h1,h2]
   ·rw [if_neg (by omega),if_pos h2,h3]
   ·exact absurd h her
  subst hZ;have heb:(er != 0)=true:=by rw [bne_iff_ne];exact her
  clear HZD HCASE HZ HPS HMB;go_enter Tryz.func20,Tryz.ntmps20
  go_wp2_with fail;refine HG.out.mono ?_;rintro r w2 ⟨rfl,hb2⟩;obtain ⟨hbx,hkq⟩:=HEND.out w2 hb2;have HKQ:=Lib.hid hkq;have hbo:=HK.out w2 hb2;obtain ⟨p0,p1,p2,p3⟩:w2.cell? ⟨g,0,none⟩=some (.int .i64 k)∧w2.cell? ⟨g,1,none⟩=some (.int .u64 e)∧w2.cell? ⟨g,2,none⟩=some (.int .u64 s)∧w2.cell? ⟨g,3,none⟩=some (.int .i64 c):=⟨hbo.cell 0,hbo.cell 1,hbo.cell 2,hbo.cell 3⟩
  obtain ⟨f0,f1,f2,f3⟩:w2.frozen? ⟨g,0,none⟩=false∧w2.frozen? ⟨g,1,none⟩=false∧w2.frozen? ⟨g,2,none⟩=false∧w2.frozen? ⟨g,3,none⟩=false:=⟨hbo.frozen 0,hbo.frozen 1,hbo.frozen 2,hbo.frozen 3⟩
  have hgl2:=hbo.lt;clear hb2 hbx hkq hbo;go_wp2;go_ret;exact ⟨rfl,fun e=>absurd e her,HKQ.out⟩
end Go.Proofs.YtclgbdfkdbbinaaGreat
