/-
  What is proved here: ImageParses: any bytes are the image that the reference says, or refused with the same error.
  Conditions: none of our own; the law's row says what its input is.
-/
import Derived.Test.YtclgbdfkdbbinaaGreatRows
import Derived.Test.YtclgbdfkdbbinaaGreatP27
import Derived.Test.YtclgbdfkdbbinaaGreatP5
import Derived.WalkKit
import Derived.ProofKit
import Derived.OpenShut
import Derived.ShutString
import Derived.ChangeOld
import Derived.Below
set_option maxRecDepth 100000
set_option maxHeartbeats 12800000
namespace Go.Proofs.YtclgbdfkdbbinaaGreat.imageParses
open Go.ChangeShapes Go.WideShapes Go.ChangeAt Go.RowKit
open Go.ChangeMaps (open_string shut_string)
set_option linter.unusedVariables false
theorem own:ownKnob Tryz.prog.godebug=none:=by kernel_rfl
theorem laidOut:laidOutB Tryz.prog=true:=by kernel_rfl
theorem fr33 (y:Nat→Value):frameOf 33 y=#[y 0,y 1,y 2,y 3,y 4,y 5,y 6,y 7,y 8,y 9,y 10,y 11,y 12,y 13,y 14,y 15,y 16,y 17,y 18,y 19,y 20,y 21,y 22,y 23,y 24,y 25,y 26,y 27,y 28,y 29,y 30,y 31,y 32]:=rfl
theorem walk (a0:Option Addr) (len0 cap0:Nat) (z0:List Int) (w:World) (w0:IsRow .u8 w a0 len0 cap0 z0) :
 Calls Tryz.prog 3 #[.slice a0 len0 cap0] w fun e w'=>e=.returned (.bool true)∧Below w.heap.size w w':=by
 have HNIL:=Lib.hid (fun e=>w0.nil e);obtain ⟨hs,hcap,hcm⟩:=w0.bys;generalize z0.take len0=ZZ at hs;have HS:=Lib.hid hs;clear w0 hs;go_enter Tryz.func3,Tryz.ntmps3
 go_wp2_with fail;refine (awake9_any _).mono ?_;rintro r v1 ⟨rfl,hb1⟩;have HB1:=Lib.hid hb1;clear hb1;by_cases h7k:70000<len0
 ·have h7i:(70000:Int)<len0:=by omega
  go_wp2;go_ret;exact ⟨rfl,HB1.out⟩
 ·have h7i:(len0:Int)≤70000:=by omega
  have HS1:=Lib.hid ((HS.out.below HB1.out).more HB1.out.size);have HP1:=Lib.hid (fun w1 (h1:Below v1.heap.size v1 w1)=>iparse_any _ a0 len0 cap0 _ w1 ((HS1.out.below h1).more h1.size) (Nat.le_refl _) hcap hcm HNIL.out);have HP2:=Lib.hid (fun w1 (h1:Below v1.heap.size v1 w1)=>rparse_any _ a0 len0 cap0 _ w1 ((HS1.out.below h1).more h1.size) (Nat.le_refl _) hcap hcm (by omega));generalize parseI ZZ=Z at HP1 HP2;obtain ⟨te,m⟩:=Z;go_wp2_with fail;refine (HP1.out _ (Below.refl _ _)).mono ?_;rintro r va2 ⟨⟨ix,rfl,hx⟩,hb2⟩;have HX:=Lib.hid hx;have HB2:=Lib.hid hb2;clear hx hb2;unfold Iv.val;try simp only
  have HBA:Hid (∀o,Below v1.heap.size v1 (va2.alloc o)):=Lib.hid (fun o=>HB2.out.alloc HB2.out.size o);have HBK0:Hid (Blk (va2.alloc (.cells #[.int .i64 ix.k,.int .u64 ix.e,.int .u64 ix.s,.int .i64 ix.c,.slice ix.sg.a ix.sg.n ix.sg.c,.string ix.so,.slice ix.nd.a ix.nd.n ix.nd.c,.slice ix.nm.a ix.nm.n ix.nm.c,.slice ix.sy.a ix.sy.n ix.sy.c,.slice ix.rl.a ix.rl.n ix.rl.c,.slice ix.zs.a ix.zs.n ix.zs.c] 32)) va2.heap.size #[.int .i64 ix.k,.int .u64 ix.e,.int .u64 ix.s,.int .i64 ix.c,.slice ix.sg.a ix.sg.n ix.sg.c,.string ix.so,.slice ix.nd.a ix.nd.n ix.nd.c,.slice ix.nm.a ix.nm.n ix.nm.c,.slice ix.sy.a ix.sy.n ix.sy.c,.slice ix.rl.a ix.rl.n ix.rl.c,.slice ix.zs.a ix.zs.n ix.zs.c] 32):=Lib.hid (Blk.new _ _ _);have HXA:Hid (∀o,ix.Is (va2.alloc o) va2.heap.size m):=Lib.hid (fun o=>HX.out.below ((Below.refl _ _).alloc (Nat.le_refl _) o));go_wp2_with fail;refine (HP2.out _ (HBA.out _)).mono ?_;rintro r va3 ⟨⟨iy,rfl,hiy⟩,hb3⟩;unfold Iv.val;try simp only
  have HB3:=Lib.hid ((HBA.out _).trans (hb3.mono (HBA.out _).size));have HBK1:=Lib.hid (HBK0.out.later hb3);have HX3:=Lib.hid ((HXA.out _).below (hb3.mono (by simp)));have HY3:=Lib.hid hiy;have hz3:va2.heap.size≤va3.heap.size:=by have:=hb3.size;simp at this;omega
  have HBK2:Hid (∀w',Stays (va3.alloc (.cells #[.int .i64 iy.k,.int .u64 iy.e,.int .u64 iy.s,.int .i64 iy.c,.slice iy.sg.a iy.sg.n iy.sg.c,.string iy.so,.slice iy.nd.a iy.nd.n iy.nd.c,.slice iy.nm.a iy.nm.n iy.nm.c,.slice iy.sy.a iy.sy.n iy.sy.c,.slice iy.rl.a iy.rl.n iy.rl.c,.slice iy.zs.a iy.zs.n iy.zs.c] 38)).drew w'→Blk w' va2.heap.size #[.int .i64 ix.k,.int .u64 ix.e,.int .u64 ix.s,.int .i64 ix.c,.slice ix.sg.a ix.sg.n ix.sg.c,.string ix.so,.slice ix.nd.a ix.nd.n ix.nd.c,.slice ix.nm.a ix.nm.n ix.nm.c,.slice ix.sy.a ix.sy.n ix.sy.c,.slice ix.rl.a ix.rl.n ix.rl.c,.slice ix.zs.a ix.zs.n ix.zs.c] 32∧Blk w' va3.heap.size #[.int .i64 iy.k,.int .u64 iy.e,.int .u64 iy.s,.int .i64 iy.c,.slice iy.sg.a iy.sg.n iy.sg.c,.string iy.so,.slice iy.nd.a iy.nd.n iy.nd.c,.slice iy.nm.a iy.nm.n iy.nm.c,.slice iy.sy.a iy.sy.n iy.sy.c,.slice iy.rl.a iy.rl.n iy.rl.c,.slice iy.zs.a iy.zs.n iy.zs.c] 38∧ix.Is w' va3.heap.size m∧iy.Is w' va3.heap.size m∧Below va3.heap.size va3 w'):=Lib.hid (fun w' h=>by
   have h0:Below va3.heap.size va3 (va3.alloc (.cells #[.int .i64 iy.k,.int .u64 iy.e,.int .u64 iy.s,.int .i64 iy.c,.slice iy.sg.a iy.sg.n iy.sg.c,.string iy.so,.slice iy.nd.a iy.nd.n iy.nd.c,.slice iy.nm.a iy.nm.n iy.nm.c,.slice iy.sy.a iy.sy.n iy.sy.c,.slice iy.rl.a iy.rl.n iy.rl.c,.slice iy.zs.a iy.zs.n iy.zs.c] 38)).drew:=((Below.refl _ _).alloc (Nat.le_refl _) _).drew;have h1:Below va3.heap.size va3 w':=h0.trans (Below.mono h h0.size);exact ⟨HBK1.out.later h1,(Blk.new va3 _ _).drew.later h,(HX3.out.more hz3).below h1,HY3.out.below h1,h1⟩)
  clear hiy hb3 HBK0 HBK1 HP1 HP2 HXA HX HX3 HY3;have HMO:=Lib.hid (fun w1=>model9_any ix w1);have HSA:=Lib.hid (fun w1 (h1:ix.Is w1 va3.heap.size m) (h2:iy.Is w1 va3.heap.size m) (h3:va3.heap.size≤w1.heap.size)=>rsame_eq va3.heap.size ix iy m w1 h1 h2 h3);unfold Iv.val at HMO HSA;go_wp2;refine wp_region_facts (by kernel_rfl) Stays Stays.refl Stays.trans 33 rfl [24,25,26,27,28,29,30,31,32,2] (factsOf [Is (.int .i64 te),Is (.int .i64 te),Is (.bool true),Is (.bool true),Is (.agg #[.int .i64 ix.k,.int .u64 ix.e,.int .u64 ix.s,.int .i64 ix.c,.slice ix.sg.a ix.sg.n ix.sg.c,.string ix.so,.slice ix.nd.a ix.nd.n ix.nd.c,.slice ix.nm.a ix.nm.n ix.nm.c,.slice ix.sy.a ix.sy.n ix.sy.c,.slice ix.rl.a ix.rl.n ix.rl.c,.slice ix.zs.a ix.zs.n ix.zs.c]),Is (.agg #[.int .i64 ix.k,.int .u64 ix.e,.int .u64 ix.s,.int .i64 ix.c,.slice ix.sg.a ix.sg.n ix.sg.c,.string ix.so,.slice ix.nd.a ix.nd.n ix.nd.c,.slice ix.nm.a ix.nm.n ix.nm.c,.slice ix.sy.a ix.sy.n ix.sy.c,.slice ix.rl.a ix.rl.n ix.rl.c,.slice ix.zs.a ix.zs.n ix.zs.c]),Is (.agg #[.int .i64 iy.k,.int .u64 iy.e,.int .u64 iy.s,.int .i64 iy.c,.slice iy.sg.a iy.sg.n iy.sg.c,.string iy.so,.slice iy.nd.a iy.nd.n iy.nd.c,.slice iy.nm.a iy.nm.n iy.nm.c,.slice iy.sy.a iy.sy.n iy.sy.c,.slice iy.rl.a iy.rl.n iy.rl.c,.slice iy.zs.a iy.zs.n iy.zs.c]),Is (.bool true),Is (.bool true),Is (.bool true)]) (by kernel_rfl) (factsOf_mono (mono_cons (Is.mono _) (mono_cons (Is.mono _) (mono_cons (Is.mono _) (mono_cons (Is.mono _) (mono_cons (Is.mono _) (mono_cons (Is.mono _) (mono_cons (Is.mono _) (mono_cons (Is.mono _) (mono_cons (Is.mono _) (mono_cons (Is.mono _) mono_nil))))))))))) ?steps24 ?fin24;case fin24=>
   intro v w4 hb2 hF;have hlast:v 9=.bool true:=hF 9 (by decide);have HBF:Hid (Below w.heap.size w w4):=Lib.hid (HB1.out.trans ((HB3.out.trans ((HBK2.out _ hb2).2.2.2.2.mono HB3.out.size)).mono HB1.out.size));clear hb2 hF;simp only [putAll,List.set_cons_succ,List.set_cons_zero,Nat.reduceAdd,hlast];go_wp2;go_ret;exact ⟨rfl,HBF.out⟩
  case steps24=>
   refine ⟨?_,?_,?_,?_,?_,?_,?_,?_,?_,?_,trivial⟩;all_goals intro y w2 hb hy0 hp0
   all_goals have hy:=Lib.hid hy0
   all_goals have hp:=Lib.hid hp0
   all_goals have hst:=Lib.hid hb
   all_goals clear hy0 hp0 hb
   ·have e1:y 5=.int .i64 te:=hy.out 5 (by decide);refine StepG.plain rfl fun K Q hK=>?_;simp only [fr33] at hK⊢;rw [e1] at hK⊢;go_simp;exact hK _ _ ⟨Stays.refl _,by first | rfl | simp [Is] | (simp [factsOf,Is];done)⟩
   ·have e1:y 7=.int .i64 te:=hy.out 7 (by decide);refine StepG.plain rfl fun K Q hK=>?_;simp only [fr33] at hK⊢;rw [e1] at hK⊢;go_simp;exact hK _ _ ⟨Stays.refl _,by first | rfl | simp [Is] | (simp [factsOf,Is];done)⟩
   ·have e1:y 24=.int .i64 te:=hp.out 0 (by decide);have e2:y 25=.int .i64 te:=hp.out 1 (by decide);refine StepG.plain rfl fun K Q hK=>?_;simp only [fr33] at hK⊢;rw [e1,e2] at hK⊢;go_simp;exact hK _ _ ⟨Stays.refl _,by first | rfl | simp [Is] | (simp [factsOf,Is];done)⟩
   ·have e1:y 26=.bool true:=hp.out 2 (by decide);refine StepG.plain rfl fun K Q hK=>?_;simp only [fr33] at hK⊢;rw [e1] at hK⊢;go_simp;exact hK _ _ ⟨Stays.refl _,by first | rfl | simp [Is] | (simp [factsOf,Is];done)⟩
   ·have e1:y 4=.pointer (some ⟨va2.heap.size,0,none⟩):=hy.out 4 (by decide);obtain ⟨q0,q1,q2,q3,q4,q5,q6,q7,q8,q9,q10⟩:=Iv.cs (HBK2.out _ hst.out).1;refine StepG.yes (b:=true) (t:=27) rfl rfl rfl (by decide) (hp.out 3 (by decide)) fun K Q hK=>?_;simp only [fr33] at hK⊢;rw [e1] at hK⊢;go_simp;exact hK _ _ ⟨Stays.refl _,by first | rfl | simp [Is] | (simp [factsOf,Is];done)⟩
   ·have e1:y 28=.agg #[.int .i64 ix.k,.int .u64 ix.e,.int .u64 ix.s,.int .i64 ix.c,.slice ix.sg.a ix.sg.n ix.sg.c,.string ix.so,.slice ix.nd.a ix.nd.n ix.nd.c,.slice ix.nm.a ix.nm.n ix.nm.c,.slice ix.sy.a ix.sy.n ix.sy.c,.slice ix.rl.a ix.rl.n ix.rl.c,.slice ix.zs.a ix.zs.n ix.zs.c]:=hp.out 4 (by decide);refine StepG.yes (b:=true) (t:=27) rfl rfl rfl (by decide) (hp.out 3 (by decide)) fun K Q hK=>?_;simp only [fr33] at hK⊢;rw [e1] at hK⊢;go_simp;go_at_call 13
    refine (HMO.out _).mono ?_;rintro r w4 ⟨rfl,hb4⟩;exact hK _ w4 ⟨hb4,rfl⟩
   ·have e1:y 6=.pointer (some ⟨va3.heap.size,0,none⟩):=hy.out 6 (by decide);obtain ⟨q0,q1,q2,q3,q4,q5,q6,q7,q8,q9,q10⟩:=Iv.cs (HBK2.out _ hst.out).2.1;refine StepG.yes (b:=true) (t:=27) rfl rfl rfl (by decide) (hp.out 3 (by decide)) fun K Q hK=>?_;simp only [fr33] at hK⊢;rw [e1] at hK⊢;go_simp;exact hK _ _ ⟨Stays.refl _,by first | rfl | simp [Is] | (simp [factsOf,Is];done)⟩
   ·have e1:y 29=.agg #[.int .i64 ix.k,.int .u64 ix.e,.int .u64 ix.s,.int .i64 ix.c,.slice ix.sg.a ix.sg.n ix.sg.c,.string ix.so,.slice ix.nd.a ix.nd.n ix.nd.c,.slice ix.nm.a ix.nm.n ix.nm.c,.slice ix.sy.a ix.sy.n ix.sy.c,.slice ix.rl.a ix.rl.n ix.rl.c,.slice ix.zs.a ix.zs.n ix.zs.c]:=hp.out 5 (by decide);have e2:y 30=.agg #[.int .i64 iy.k,.int .u64 iy.e,.int .u64 iy.s,.int .i64 iy.c,.slice iy.sg.a iy.sg.n iy.sg.c,.string iy.so,.slice iy.nd.a iy.nd.n iy.nd.c,.slice iy.nm.a iy.nm.n iy.nm.c,.slice iy.sy.a iy.sy.n iy.sy.c,.slice iy.rl.a iy.rl.n iy.rl.c,.slice iy.zs.a iy.zs.n iy.zs.c]:=hp.out 6 (by decide);have hxm:=(HBK2.out _ hst.out).2.2.1;have hym:=(HBK2.out _ hst.out).2.2.2.1;have hzm:=(HBK2.out _ hst.out).2.2.2.2.size;refine StepG.yes (b:=true) (t:=27) rfl rfl rfl (by decide) (hp.out 3 (by decide)) fun K Q hK=>?_;simp only [fr33] at hK⊢;rw [e1,e2] at hK⊢;go_simp;go_at_call 12
    refine (HSA.out _ hxm hym hzm).mono ?_;rintro r w4 ⟨rfl,hb4⟩;exact hK _ w4 ⟨hb4,rfl⟩
   ·have e1:y 27=.bool true:=hp.out 3 (by decide);have e2:y 31=.bool true:=hp.out 7 (by decide);refine StepG.plain rfl fun K Q hK=>?_;simp only [fr33] at hK⊢;rw [e1,e2] at hK⊢;go_simp;exact hK _ _ ⟨Stays.refl _,by first | rfl | simp [Is] | (simp [factsOf,Is];done)⟩
   ·have e1:y 32=.bool true:=hp.out 8 (by decide);refine StepG.plain rfl fun K Q hK=>?_;simp only [fr33] at hK⊢;rw [e1] at hK⊢;go_simp;exact hK _ _ ⟨Stays.refl _,by first | rfl | simp [Is] | (simp [factsOf,Is];done)⟩
theorem lifted (os:Os) (started:os.Started) (H:Type) (enc:TypeId×Value→H) :
 ReturnsInHanded {} Tryz.checked os 3 .any (Rows.imageParsesSpec.pre6 enc Tryz.prog Tryz.f3 Rows.imageParsesRow.domain false) (Rows.imageParsesSpec.post enc Tryz.prog Tryz.f3 false true false false):=by
 refine returnsInHanded_of_change (C:=Tryz.checked) own started (by kernel_rfl) Tryz.func3
  (ChangeSpec.witness6 (enc:=enc) (C:=Tryz.checked) false ⟨#[],#[.slice none 0 0],[]⟩ 8 (by kernel_rfl) (by kernel_rfl) (by kernel_rfl) (by kernel_rfl)) ?_
 intro W base args ds gs before hval0 hW hcnd _;have hval:∀(j:Nat) t v,Tryz.f3.params[j]?=some t→args[j]?=some v→Value.okWide Tryz.prog W .any base t v:=hval0;have hW':=hW;obtain ⟨p,q,hA0,hV,rfl,hfz,hnd⟩:=hW;have hA:DataW.TrodAll enc Tryz.prog W 0 (fun _=>true) true Tryz.f3.params.toList args.toList ds p:=hA0;rw [Tryz.params3] at hA hval;obtain ⟨v0,vs0,d0,ds0,p0,q0,hargs,rfl,rfl,h0,r0⟩:=trodAll_cons hA;obtain ⟨rfl,rfl,rfl⟩:=trodAll_nil r0;obtain rfl:args=#[v0]:=by cases args;simp_all
 obtain ⟨rfl,rfl⟩:=trodVars_none hV;obtain ⟨a0,len0,cap0,rfl⟩:=okWide_slice Tryz.underlying22 (hval 0 22 v0 rfl rfl);have k0:=h0;have lt0:∀x∈p0,x.block<W.heap.size:=by obtain ⟨m,hm⟩:=k0;exact DataW.trod_lt m _ _ _ hm
 obtain ⟨z0,w0⟩:∃zs,IsRow .u8 W a0 len0 cap0 zs:=by
  obtain ⟨fuel,hf⟩:=h0;rcases open_ints Tryz.underlying22 Tryz.underlying5 (by kernel_rfl) hf with ⟨hcs,_⟩ | ⟨x,l,c,zs,hcs,_,hl,hm,hz,_,hcell,hwz⟩
  ·simp [Value.cells] at hcs
   obtain ⟨rfl,rfl,rfl⟩:=hcs;exact ⟨[],.inl ⟨rfl,rfl,rfl,rfl⟩⟩
  ·simp [Value.cells] at hcs
   obtain ⟨rfl,rfl,rfl⟩:=hcs;exact ⟨zs,.inr ⟨_,rfl,hl,hm,by simpa using hz,hcell,hwz⟩⟩
 clear hA0 hval0;refine (walk a0 len0 cap0 z0 W w0).mono fun e W' ⟨he,bel⟩=>?_;subst he;exact ⟨_,rfl,_,_,_,[],_,[],hW',trodAll_mk1 (shut_bool Tryz.underlying4 _),(trodAll_cons_mk (Below.trod laidOut (by kernel_rfl) (of_decide_eq_true (by kernel_rfl)) k0 bel lt0) trodAll_mk0),rfl,bel.frame _,fun h=>by cases h⟩
theorem over:Rows.imageParsesRow.holds Tryz.pinned (OpenSpec.ofChange Rows.imageParsesSpec):=
 OpenClaim.holds_of_wide 3 Tryz.f3 rfl rfl rfl rfl rfl rfl rfl ⟨rfl,rfl,rfl,rfl,rfl⟩ rfl rfl rfl rfl rfl (by kernel_rfl) Tryz.func3 (by kernel_rfl)
  (of_decide_eq_true (by kernel_rfl)) (by unfold Func.isWrapper;first | (rw [if_pos (by decide +kernel)];kernel_rfl) | (rw [if_neg (by decide +kernel)];exact ⟨rfl,rfl⟩))
  (fun os started H enc _=>lifted os started H enc)
theorem proved:Rows.ImageParsesSaid:=over
#print axioms proved
end Go.Proofs.YtclgbdfkdbbinaaGreat.imageParses
