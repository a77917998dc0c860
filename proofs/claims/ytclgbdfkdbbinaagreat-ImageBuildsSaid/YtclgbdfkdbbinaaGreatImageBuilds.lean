/-
  What is proved here: ImageBuilds: the file of any specification is the one that the reference builds, or refused with the same error.
  Conditions: none of our own; the law's row says what its input is.
-/
import Derived.Test.YtclgbdfkdbbinaaGreatRows
import Derived.Test.YtclgbdfkdbbinaaGreatB37
import Derived.Test.YtclgbdfkdbbinaaGreatB5
import Derived.WalkKit
import Derived.ProofKit
import Derived.OpenShut
import Derived.ShutString
import Derived.ChangeOld
import Derived.Below
set_option maxRecDepth 100000
set_option maxHeartbeats 12800000
namespace Go.Proofs.YtclgbdfkdbbinaaGreat.imageBuilds
open Go.ChangeShapes Go.WideShapes Go.ChangeAt Go.RowKit
open Go.ChangeMaps (open_string shut_string)
set_option linter.unusedVariables false
theorem own:ownKnob Tryz.prog.godebug=none:=by kernel_rfl
theorem laidOut:laidOutB Tryz.prog=true:=by kernel_rfl
theorem walk (x0:Spv) (m0:Sp) (w:World) (w0:uD w x0 m0) :
 Calls Tryz.prog 4 #[x0.val] w fun e w'=>e=.returned (.bool true)∧Below w.heap.size w w':=by
 obtain ⟨k,so,⟨nda,ndn,ndc⟩,en,⟨coa,con,coc⟩,⟨daa,dan,dac⟩,bz,⟨tla,tln,tlc⟩,tz,⟨dfa,dfn,dfc⟩,⟨fxa,fxn,fxc⟩⟩:=x0;have HIN:=hZz w0;unfold Spv.val;simp only
 have HK0:Hid (Blk (w.alloc (.cells #[.int .i64 k,.string so,.slice nda ndn ndc,.int .u64 en,.slice coa con coc,.slice daa dan dac,.int .u64 bz,.slice tla tln tlc,.int .u64 tz,.slice dfa dfn dfc,.slice fxa fxn fxc] 47)) w.heap.size #[.int .i64 k,.string so,.slice nda ndn ndc,.int .u64 en,.slice coa con coc,.slice daa dan dac,.int .u64 bz,.slice tla tln tlc,.int .u64 tz,.slice dfa dfn dfc,.slice fxa fxn fxc] 47):=hZz (Blk.new _ _ _);have HB0:Hid (Below w.heap.size w (w.alloc (.cells #[.int .i64 k,.string so,.slice nda ndn ndc,.int .u64 en,.slice coa con coc,.slice daa dan dac,.int .u64 bz,.slice tla tln tlc,.int .u64 tz,.slice dfa dfn dfc,.slice fxa fxn fxc] 47))):=hZz ((Below.refl _ _).alloc (lZr _) _);clear w0;go_enter Tryz.func4,Tryz.ntmps4
 go_wp2_with fail;refine (pz _).mono ?_;rintro r v1 ⟨rfl,hb1⟩;have HK1:=hZz (HK0.out.later hb1);have HB1:=hZz (HB0.out.trans (hb1.mono HB0.out.size));have HFW:=hZz (uK w.heap.size (⟨k,so,⟨nda,ndn,ndc⟩,en,⟨coa,con,coc⟩,⟨daa,dan,dac⟩,bz,⟨tla,tln,tlc⟩,tz,⟨dfa,dfn,dfc⟩,⟨fxa,fxn,fxc⟩⟩:Spv) m0 v1 (HIN.out.is.below HB1.out) HB1.out.size HIN.out.so HIN.out.ns);unfold Spv.val at HFW;simp only at HFW;obtain ⟨q0,q1,q2,q3,q4,q5,q6,q7,q8,q9,q10⟩:=Iv.cs HK1.out;clear hb1 HK0 HB0;go_wp2_with fail;refine HFW.out.mono ?_;rintro r v2 ⟨⟨fb,rfl,hfew⟩,hb2⟩;have HB:=hZz (HB1.out.trans (hb2.mono HB1.out.size));have HK:=hZz (HK1.out.later hb2);have HFE:=hZz hfew;clear hb2 hfew HFW HK1 HB1 q0 q1 q2 q3 q4 q5 q6 q7 q8 q9 q10;cases fb with
 | false=>
   go_wp2;go_ret;exact ⟨rfl,HB.out⟩
 | true=>
 have HF:=hZz (HFE.out rfl);have HI:=hZz (HIN.out.is.below HB.out);have HBY:=hZz HIN.out.is.by
 clear HFE;have HBU:=hZz (oA HI.out HB.out.size HIN.out.nil HF.out HIN.out.so HIN.out.ns);have HSP:=hZz (fun w1 (h1:Below w.heap.size w w1)=>rs w.heap.size (⟨k,so,⟨nda,ndn,ndc⟩,en,⟨coa,con,coc⟩,⟨daa,dan,dac⟩,bz,⟨tla,tln,tlc⟩,tz,⟨dfa,dfn,dfc⟩,⟨fxa,fxn,fxc⟩⟩:Spv) m0 w1 (HIN.out.is.below h1) h1.size HIN.out.nil HF.out.l.2.1 HF.out.l.2.2.1);have HRB:=hZz (fun (x1:Spv) w1 (h1:x1.Is w1 w1.heap.size m0) (h2:aC x1)=>pO h1 (lZr _) h2 HF.out);unfold Spv.val at HBU HSP;simp only at HBU HSP;generalize bt m0=Z at HBU HRB HBY;obtain ⟨te,zs⟩:=Z;simp only at HBY;obtain ⟨q0,q1,q2,q3,q4,q5,q6,q7,q8,q9,q10⟩:=Iv.cs HK.out;go_wp2_with fail;refine HBU.out.mono ?_;rintro r v3 ⟨u,rfl,ho,hb3⟩;obtain ⟨ba,bc,rfl,-,-,-,hm3⟩:=ORow.own ho HBY.out;have HB3:=hZz (HB.out.trans (hb3.mono HB.out.size));have HK3:=hZz (HK.out.later hb3);have HM3:=hZz hm3;clear ho hb3 hm3 HBU HK q0 q1 q2 q3 q4 q5 q6 q7 q8 q9 q10;obtain ⟨q0,q1,q2,q3,q4,q5,q6,q7,q8,q9,q10⟩:=Iv.cs HK3.out;go_wp2_with fail;refine (HSP.out _ HB3.out).mono ?_;rintro r v4 ⟨x1,rfl,his,hnil,hb4⟩;have HS4:=hZz (HRB.out x1 v4 his hnil);have HB4:=hZz (HB3.out.trans (hb4.mono HB3.out.size));have HM4:=hZz ((HM3.out.below hb4).more hb4.size);clear his hnil hb4 HM3 HB3 HRB HSP HK3 q0 q1 q2 q3 q4 q5 q6 q7 q8 q9 q10;unfold Spv.val at HS4⊢;go_wp2_with fail;refine HS4.out.mono ?_;rintro r v5 ⟨u,rfl,ho,hb5⟩;obtain ⟨ca,cc,rfl,-,-,-,hm5⟩:=ORow.own ho HBY.out;have HB5:=hZz (HB4.out.trans (hb5.mono HB4.out.size));have hm4:=HM4.out.below hb5;have hcv1:(convert 22 9 (.slice ba zs.length bc)).run Tryz.prog v5=.ok (.string (strOfNums zs)) v5:=hm4.conv bc;have hcv2:(convert 22 9 (.slice ca zs.length cc)).run Tryz.prog v5=.ok (.string (strOfNums zs)) v5:=hm5.conv cc;generalize strOfNums zs=S at hcv1 hcv2;clear ho hb5 hm5 hm4 HS4 HM4;go_wp2;go_ret;exact ⟨rfl,HB5.out⟩
theorem lifted (os:Os) (started:os.Started) (H:Type) (enc:TypeId×Value→H) :
 ReturnsInHanded {} Tryz.checked os 4 .any (Rows.imageBuildsSpec.pre6 enc Tryz.prog Tryz.f4 Rows.imageBuildsRow.domain false) (Rows.imageBuildsSpec.post enc Tryz.prog Tryz.f4 false true false false):=by
 refine returnsInHanded_of_change (C:=Tryz.checked) own started (by kernel_rfl) Tryz.func4
  (ChangeSpec.witness6 (enc:=enc) (C:=Tryz.checked) false ⟨#[],#[.agg #[.int .i64 0,.string ByteArray.empty,.slice none 0 0,.int .u64 0,.slice none 0 0,.slice none 0 0,.int .u64 0,.slice none 0 0,.int .u64 0,.slice none 0 0,.slice none 0 0]],[]⟩ 8 (by kernel_rfl) (by kernel_rfl) (by kernel_rfl) (by kernel_rfl)) ?_
 intro W base args ds gs before hval0 hW hcnd _;have hval:∀(j:Nat) t v,Tryz.f4.params[j]?=some t→args[j]?=some v→Value.okWide Tryz.prog W .any base t v:=hval0;have hW':=hW;obtain ⟨p,q,hA0,hV,rfl,hfz,hnd⟩:=hW;have hA:DataW.TrodAll enc Tryz.prog W 0 (fun _=>true) true Tryz.f4.params.toList args.toList ds p:=hA0;rw [Tryz.params4] at hA hval;obtain ⟨v0,vs0,d0,ds0,p0,q0,hargs,rfl,rfl,h0,r0⟩:=trodAll_cons hA;obtain ⟨rfl,rfl,rfl⟩:=trodAll_nil r0;obtain rfl:args=#[v0]:=by cases args;simp_all
 obtain ⟨rfl,rfl⟩:=trodVars_none hV;obtain ⟨cs0,rfl,_⟩:=okWide_struct Tryz.underlying47 (hval 0 47 v0 rfl rfl);have k0:=h0;have lt0:∀x∈p0,x.block<W.heap.size:=by obtain ⟨m,hm⟩:=k0;exact DataW.trod_lt m _ _ _ hm
 obtain ⟨x0,m0,w0,rfl⟩:∃(s:Spv) (m:Sp),uD W s m∧cs0=s.cells:=by
  obtain ⟨fuel,hf⟩:=h0;exact Spv.open1 hf
 clear hA0 hval0;refine (walk x0 m0 W w0).mono fun e W' ⟨he,bel⟩=>?_;subst he;exact ⟨_,rfl,_,_,_,[],_,[],hW',trodAll_mk1 (shut_bool Tryz.underlying4 _),(trodAll_cons_mk (Below.trod laidOut (by kernel_rfl) (of_decide_eq_true (by kernel_rfl)) k0 bel lt0) trodAll_mk0),rfl,bel.frame _,fun h=>by cases h⟩
theorem over:Rows.imageBuildsRow.holds Tryz.pinned (OpenSpec.ofChange Rows.imageBuildsSpec):=
 OpenClaim.holds_of_wide 4 Tryz.f4 rfl rfl rfl rfl rfl rfl rfl ⟨rfl,rfl,rfl,rfl,rfl⟩ rfl rfl rfl rfl rfl (by kernel_rfl) Tryz.func4 (by kernel_rfl)
  (of_decide_eq_true (by kernel_rfl)) (by unfold Func.isWrapper;first | (rw [if_pos (by decide +kernel)];kernel_rfl) | (rw [if_neg (by decide +kernel)];exact ⟨rfl,rfl⟩))
  (fun os started H enc _=>lifted os started H enc)
theorem proved:Rows.ImageBuildsSaid:=over
#print axioms proved
end Go.Proofs.YtclgbdfkdbbinaaGreat.imageBuilds
