/-
  What is proved here: words and contracts, a part of those that the statement rests on (C31).
  Conditions: none but that the arguments are values of their types.
-/
import Derived.Test.YtclgbdfkdbbinaaGreatC30
set_option linter.unusedVariables false
set_option linter.unusedSimpArgs false
set_option maxRecDepth 100000
set_option maxHeartbeats 12800000
namespace Go.Proofs.YtclgbdfkdbbinaaGreat
open Go.RowKit
def mP (en:Int) (co da:List Int):Sp:=⟨2,.empty,[],en,co,da,0,[],0,[],[]⟩
structure PH (en:Int) (co da:List Int):Prop where
 c0:0<co.length
 c1:co.length≤3000
 d1:da.length≤3000
 e0:0≤en∧en≤65535
section
variable {en:Int} {co da:List Int}
theorem mp_list:listB (mP en co da)=[.empty]:=rfl
theorem mp_tab:tabB (mP en co da)=[0]:=by
 unfold tabB;rw [mp_list]
 kernel_rfl
theorem mp_out:outB (mP en co da)=[0]:=by
 unfold outB;rw [mp_list]
 kernel_rfl
theorem mp_need:needO (mP en co da)=[]:=rfl
theorem mp_v0:v0B (mP en co da)=[0,0,1,0,0,0,0]:=by
 unfold v0B;rw [mp_out,mp_tab];rfl
theorem mp_size:sizeB (mP en co da)=48:=by
 unfold sizeB;rw [mp_v0,mp_need]
 kernel_rfl
theorem mp_clean:cleanB (listB (mP en co da))=true:=by rw [mp_list];kernel_rfl
theorem mp_symN:symN (mP en co da)=0:=rfl
theorem mp_relN:relN (mP en co da)=0:=rfl
theorem PH.hasC (h:PH en co da):hasC (mP en co da)=true:=by unfold Go.Proofs.YtclgbdfkdbbinaaGreat.hasC mP;simp [h.c0]
theorem mp_hasT:hasT (mP en co da)=false:=by unfold Go.Proofs.YtclgbdfkdbbinaaGreat.hasT mP;simp
theorem mp_hasD:hasD (mP en co da)=decide (0<da.length):=by unfold Go.Proofs.YtclgbdfkdbbinaaGreat.hasD mP;simp
theorem PH.may (h:PH en co da):MayB (mP en co da) where
 k:=.inl rfl
 df:=fun d hd=>by cases hd
 fx:=fun f hf=>by cases hf
 bs:=⟨Int.le_refl 0,(show (0:Int)≤1048576 by decide)⟩
 tb:=⟨Int.le_refl 0,(show (0:Int)≤1048576 by decide)⟩
 sz:=by have:=h.c1;have:=h.d1;show co.length+da.length+0≤65536;omega
 en:=⟨h.e0.1,by have:=h.e0.2;show en≤_;omega⟩
 tab:=by rw [mp_tab];decide
 nd:=by show (0:Nat)≤1000;decide
 dfl:=by show (0:Nat)≤1000;decide
 fxl:=by show (0:Nat)≤1000;decide
 dok:=fun d hd=>by cases hd
 fok:=fun f hf=>by cases hf
structure PN (m:Sp) (n k:Nat) (c:Int):Prop where
 co:m.co.length=n
 da:m.da.length=k
 cc:countB m=c
 dy:dynB m=64+56*c
 st:strB m=112+56*c
 en:endB m=120+56*c
 cd:codeB m=512
 dl:512+(n:Int)≤dataB m
 dh:dataB m≤512+(n:Int)+255
 dm:dataB m % 256=0
theorem PH.nums (h:PH en co da):PN (mP en co da) co.length da.length (if 0<da.length then 4 else 3):=by
 have hc:countB (mP en co da)=if 0<da.length then 4 else 3:=by
  unfold countB;rw [h.hasC,mp_hasT,mp_hasD];by_cases hd:0<da.length
  ·rw [if_pos hd,decide_eq_true hd];rfl
  ·rw [if_neg hd,decide_eq_false hd];rfl
 have hdy:dynB (mP en co da)=64+56*countB (mP en co da):=rfl;have hst:strB (mP en co da)=dynB (mP en co da)+48:=by unfold strB;rw [mp_size]
 have hsy:symB (mP en co da)=upI (strB (mP en co da)+1) 8:=by unfold symB;rw [mp_tab];rfl
 have hen:endB (mP en co da)=symB (mP en co da):=by unfold endB relB;rw [mp_symN,mp_relN];omega
 have hcd:codeB (mP en co da)=upI (endB (mP en co da)) 256:=rfl;have hdd:dataB (mP en co da)=upI (codeB (mP en co da)+co.length) 256:=rfl;have hc3:countB (mP en co da)=3∨countB (mP en co da)=4:=by rw [hc];split<;>simp
 rw [hdy] at hst;unfold upI at hsy hcd hdd;have hcd':codeB (mP en co da)=512:=by rcases hc3 with e | e<;>rw [e] at hst<;>omega
 have hen':endB (mP en co da)=120+56*countB (mP en co da):=by rcases hc3 with e | e<;>rw [e] at hst⊢<;>omega
 rw [hcd'] at hdd;refine ⟨rfl,rfl,hc,by rw [hdy,hc],by rw [hst,hc];omega,by rw [hen',hc],hcd',by omega,by omega,by omega⟩
theorem PH.entry (h:PH en co da):entryB (mP en co da)=512+en:=by
 unfold entryB;rw [h.hasC,if_pos rfl,h.nums.cd];exact wrap_id (by have:=h.e0;show 0≤512+en;omega) (by have:=h.e0;show 512+en≤_;omega)
theorem PH.segs (h:PH en co da):segsB (mP en co da)=[⟨1,4,0,0,endB (mP en co da),endB (mP en co da),256⟩,⟨1,5,512,512,co.length,co.length,256⟩]
 ++(if 0<da.length then [⟨1,6,dataB (mP en co da),dataB (mP en co da),da.length,da.length,256⟩] else [])
 ++[⟨2,4,dynB (mP en co da),dynB (mP en co da),48,48,8⟩]:=by
 unfold segsB;rw [h.hasC,mp_hasT,mp_hasD,mp_size,h.nums.cd];have hF:datF (mP en co da)=da.length:=by unfold datF mP;simp
 rw [hF];by_cases hd:0<da.length
 ·rw [if_pos hd,decide_eq_true hd];have hne:da≠[]:=by intro e;rw [e] at hd;simp at hd
  simp [mP,hne]
 ·rw [if_neg hd,decide_eq_false hd];simp [mP]
theorem PH.len (h:PH en co da):((fileB (mP en co da)).length:Int)=if 0<da.length then dataB (mP en co da)+da.length else 512+co.length:=by
 rw [file_len h.may,if_neg (show ¬0<(mP en co da).tl.length from Nat.lt_irrefl 0),h.nums.cd];have h0:=h.c0;show (if 0<da.length then dataB (mP en co da)+da.length else if 0<co.length then 512+(co.length:Int) else _)=_;rw [if_pos h0]
theorem PH.lim (h:PH en co da):512<(fileB (mP en co da)).length∧(fileB (mP en co da)).length≤10000:=by
 have h1:=h.len;have h2:=h.nums.dh;have h3:=h.nums.dl;have h4:=h.c0;have h5:=h.c1;have h6:=h.d1;by_cases hd:0<da.length
 ·rw [if_pos hd] at h1;omega
 ·rw [if_neg hd] at h1;omega
theorem alone_zero {s:Sg} {size:Int} (h1:knownB s.ty=true) (h2:s.fl≤7) (h4:s.ot≤size∧s.fi≤size-s.ot) (h5:s.fi≤s.me) (h6:s.va≤4294967296∧s.me≤4294967296-s.va) (h7:s.ty=1→s.va % 256=s.ot % 256∧s.me≠0):aloneS s size=0:=by
 unfold aloneS;rw [if_neg (by rw [h1];simp;omega)];by_cases h0:s.ty=0
 ·rw [if_pos h0]
 rw [if_neg h0,if_neg (by omega),if_neg (by omega),if_neg (by omega),if_neg (fun e=>by have:=h7 e.1;omega)]
theorem step1_load {pre:List Sg} {s:Sg} {size:Int} (ha:aloneS s size=0) (ht:s.ty=1) (hl:lastEnd pre≤firstS s):step1 pre s size=0:=by
 unfold step1;rw [if_neg (by omega),if_pos ht,if_neg (by omega)]
theorem step1_dyn {pre:List Sg} {s:Sg} {size:Int} (ha:aloneS s size=0) (ht:s.ty=2) (hp:pre.any (fun k=>k.ty==2)=false):step1 pre s size=0:=by
 unfold step1;rw [if_neg (by omega),if_neg (by omega),if_pos (.inl ht),ht,hp];rfl
theorem step2_load {L:List Sg} {s:Sg} (ht:s.ty=1):step2 L s=0:=by
 unfold step2;rw [if_neg (by omega)]
theorem PH.check (h:PH en co da):checkS (segsB (mP en co da)) (fileB (mP en co da)).length=0:=by
 have hl:=h.len;have hm:=h.lim;have hn:=h.nums;have h1:=hn.en;have h2:=hn.dl;have h3:=hn.dh;have h4:=hn.dm;have h5:=hn.dy;have c0:=h.c0;have c1:=h.c1;have d1:=h.d1;rw [h.segs];generalize (fileB (mP en co da)).length=F at hl hm;generalize endB (mP en co da)=E at h1;generalize dynB (mP en co da)=Dy at h5;generalize dataB (mP en co da)=D at hl h2 h3 h4;clear hn;by_cases hd:0<da.length
 ·rw [if_pos hd] at hl h1 h5;rw [if_pos hd];simp only [List.cons_append,List.nil_append];have a0:aloneS ⟨1,4,0,0,E,E,256⟩ F=0:=alone_zero rfl (show (4:Int)≤7 by decide) (by simp only;omega) (by simp only;omega) (by simp only;omega) (fun _=>⟨rfl,(show E≠0 by omega)⟩);have a1:aloneS ⟨1,5,512,512,co.length,co.length,256⟩ F=0:=alone_zero rfl (show (5:Int)≤7 by decide) (by simp only;omega) (by simp only;omega) (by simp only;omega) (fun _=>⟨rfl,(show (co.length:Int)≠0 by omega)⟩);have a2:aloneS ⟨1,6,D,D,da.length,da.length,256⟩ F=0:=alone_zero rfl (show (6:Int)≤7 by decide) (by simp only;omega) (by simp only;omega) (by simp only;omega) (fun _=>⟨rfl,(show (da.length:Int)≠0 by omega)⟩);have a3:aloneS ⟨2,4,Dy,Dy,48,48,8⟩ F=0:=alone_zero rfl (show (4:Int)≤7 by decide) (by simp only;omega) (by simp only;omega) (by simp only;omega) (fun e=>absurd e (show ¬(2:Int)=1 by decide));refine chk_ok (fun j hj=>?_) (fun j hj=>?_)
  ·obtain rfl | rfl | rfl | rfl:j=0∨j=1∨j=2∨j=3:=by simp at hj;omega
   ·exact step1_load a0 rfl (by show (0:Int)≤0 / 256*256;decide)
   ·exact step1_load a1 rfl (by show (0+E+255) / 256*256≤512 / 256*256;omega)
   ·exact step1_load a2 rfl (by show (512+(co.length:Int)+255) / 256*256≤D / 256*256;omega)
   ·exact step1_dyn a3 rfl rfl
  ·obtain rfl | rfl | rfl | rfl:j=0∨j=1∨j=2∨j=3:=by simp at hj;omega
   ·exact step2_load rfl
   ·exact step2_load rfl
   ·exact step2_load rfl
   ·show step2 _ (⟨2,4,Dy,Dy,48,48,8⟩:Sg)=0;unfold step2;rw [if_pos ⟨.inl rfl,(show (48:Int)≠0 by decide)⟩,if_pos];rw [List.any_cons];have hi:inB ⟨2,4,Dy,Dy,48,48,8⟩ ⟨1,4,0,0,E,E,256⟩=true:=by
     unfold inB contB;simp only [beq_self_eq_true,Bool.true_and,Bool.and_eq_true,decide_eq_true_eq,Int.sub_self,and_true];omega
    rw [hi];rfl
 ·rw [if_neg hd] at hl h1 h5;rw [if_neg hd];simp only [List.cons_append,List.nil_append];have a0:aloneS ⟨1,4,0,0,E,E,256⟩ F=0:=alone_zero rfl (show (4:Int)≤7 by decide) (by simp only;omega) (by simp only;omega) (by simp only;omega) (fun _=>⟨rfl,(show E≠0 by omega)⟩);have a1:aloneS ⟨1,5,512,512,co.length,co.length,256⟩ F=0:=alone_zero rfl (show (5:Int)≤7 by decide) (by simp only;omega) (by simp only;omega) (by simp only;omega) (fun _=>⟨rfl,(show (co.length:Int)≠0 by omega)⟩);have a3:aloneS ⟨2,4,Dy,Dy,48,48,8⟩ F=0:=alone_zero rfl (show (4:Int)≤7 by decide) (by simp only;omega) (by simp only;omega) (by simp only;omega) (fun e=>absurd e (show ¬(2:Int)=1 by decide));refine chk_ok (fun j hj=>?_) (fun j hj=>?_)
  ·obtain rfl | rfl | rfl:j=0∨j=1∨j=2:=by simp at hj;omega
   ·exact step1_load a0 rfl (by show (0:Int)≤0 / 256*256;decide)
   ·exact step1_load a1 rfl (by show (0+E+255) / 256*256≤512 / 256*256;omega)
   ·exact step1_dyn a3 rfl rfl
  ·obtain rfl | rfl | rfl:j=0∨j=1∨j=2:=by simp at hj;omega
   ·exact step2_load rfl
   ·exact step2_load rfl
   ·show step2 _ (⟨2,4,Dy,Dy,48,48,8⟩:Sg)=0;unfold step2;rw [if_pos ⟨.inl rfl,(show (48:Int)≠0 by decide)⟩,if_pos];rw [List.any_cons];have hi:inB ⟨2,4,Dy,Dy,48,48,8⟩ ⟨1,4,0,0,E,E,256⟩=true:=by
     unfold inB contB;simp only [beq_self_eq_true,Bool.true_and,Bool.and_eq_true,decide_eq_true_eq,Int.sub_self,and_true];omega
    rw [hi];rfl
theorem PH.mayI (h:PH en co da):mayI (mP en co da)=0:=by
 unfold Go.Proofs.YtclgbdfkdbbinaaGreat.mayI;have:=h.c1;have:=h.d1;rw [if_neg (show ¬((mP en co da).k≠2∧(mP en co da).k≠3) from fun e=>e.1 rfl),if_neg (show ¬((mP en co da).df.any badDf=true) from fun e=>by cases e),if_neg (show ¬((mP en co da).fx.any (badFx ((mP en co da).df.length:Int))=true) from fun e=>by cases e),
  if_neg (show ¬(1048576<(mP en co da).bs∨1048576<(mP en co da).tb∨65536<(mP en co da).co.length+(mP en co da).da.length+(mP en co da).tl.length) from (show ¬((1048576:Int)<0∨(1048576:Int)<0∨65536<co.length+da.length+0) by omega))]
theorem PH.build (h:PH en co da):buildI (mP en co da)=(0,fileB (mP en co da)):=by
 unfold buildI;rw [h.mayI,if_neg (by decide),mp_clean,if_neg (by decide),mp_tab,if_neg (by decide),if_neg (by have:=h.lim;omega)]
theorem vK_mp:vK (vB (mP en co da)) 7=[0,strB (mP en co da),1,0,0,0,0]:=by
 have hv:vB (mP en co da)=[0,strB (mP en co da),1,symB (mP en co da),0,relB (mP en co da),0]:=by
  unfold vB;rw [mp_out,mp_tab];rfl
 rw [hv];generalize strB (mP en co da)=a;generalize symB (mP en co da)=b;generalize relB (mP en co da)=c;unfold vK;simp [keepD,List.range_succ]
theorem PH.parse (h:PH en co da):parseI (fileB (mP en co da))=(0,⟨2,512+en,64,countB (mP en co da),segsB (mP en co da),.empty,[],[],[],[],fileB (mP en co da)⟩):=by
 have hm:=h.may;obtain ⟨q1,q2,q3,q4,q5,hT⟩:=heads_of hm;have hl:=h.lim;unfold parseI;rw [q3,q4,hT,q1,q2,q5,h.entry,if_neg (by omega),if_neg (by omega),if_neg (by decide),if_neg (show ¬(mP en co da).k=4 from (show ¬(2:Int)=4 by decide)),if_neg (fun e=>e rfl)];simp only
 rw [h.check,if_neg (fun e=>e rfl),if_neg (by rw [h.segs];simp [kindB])];unfold imaI;rw [dyn_find];simp only
 obtain ⟨A,C,hA,hAl⟩:=file_dyn (mP en co da);have hcut:cutI (fileB (mP en co da)) (dynB (mP en co da)) (sizeB (mP en co da))=(0,putBy (needO (mP en co da)) (vB (mP en co da))):=by
  conv=>lhs;rw [hA]
  exact cut_front hAl (by rw [putV_len];rfl)
 have hget:=dyn_back (more:=[]) (N:=needO (mP en co da)) (V:=vB (mP en co da)) (fun x hx=>by rw [mp_need] at hx;cases hx) (vB_in hm);rw [List.append_nil,vK_mp,mp_need] at hget;rw [mp_need] at hcut;obtain ⟨B,D,hB,hBl⟩:=file_tab (mP en co da);have hn:=h.nums;have hby:=bytes_front hB hBl rfl (by rw [mp_tab];decide) (by rw [mp_tab,hn.st,hn.en];simp only [List.length_cons,List.length_nil];omega) (by rw [hn.en];split<;>omega);rw [mp_tab] at hby;have hna:namedI (segsB (mP en co da)) (fileB (mP en co da)) ⟨2,4,dynB (mP en co da),dynB (mP en co da),sizeB (mP en co da),sizeB (mP en co da),8⟩=(0,na0):=by
  unfold namedI;simp only
  rw [hcut];simp only
  rw [hget,if_neg (fun e=>e rfl)];simp only
  unfold entsI;simp only [List.getD_cons_zero,List.getD_cons_succ];have e1:(([0]:List Int).length:Int)=1:=rfl;rw [e1] at hby;rw [hby,if_neg (fun e=>e rfl)];simp only
  rw [if_neg (show ¬chk [0]≠0 by decide)];unfold sonI;rw [if_pos (show ([0,strB (mP en co da),1,0,0,0,0]:List Int).getD 0 0=0 from rfl)];unfold needsI;rw [if_neg (show ¬(needI [0] []).1≠0 by decide)];unfold symsI;rw [if_neg (show ¬(1024:Int)<([0,strB (mP en co da),1,0,0,0,0]:List Int).getD 4 0 from (by show ¬(1024:Int)<0;decide)),if_pos (show ([0,strB (mP en co da),1,0,0,0,0]:List Int).getD 4 0≤0 from Int.le_refl 0)];unfold relaI;rw [if_neg (show ¬(65536:Int)<([0,strB (mP en co da),1,0,0,0,0]:List Int).getD 6 0 from (by show ¬(65536:Int)<0;decide)),if_pos (show ([0,strB (mP en co da),1,0,0,0,0]:List Int).getD 6 0≤0 from Int.le_refl 0)];rfl
 rw [hna,if_neg (fun e=>e rfl)];simp only
 have hh:heldI (segsB (mP en co da)) na0.sy na0.rl=0:=rfl;rw [hh,if_neg (fun e=>e rfl)];rfl
theorem PH.code (h:PH en co da):∃A C,fileB (mP en co da)=A++(co++C)∧A.length=512:=by
 have hc:=h.hasC;have hcl:((padB (relsP (mP en co da)) 256).length:Int)=512:=by
  rw [padB_len256,relsP_len];exact h.nums.cd
 have h1:codeP (mP en co da)=padB (relsP (mP en co da)) 256++co:=by
  unfold codeP;rw [hc,if_pos rfl];rfl
 have h2:∃C,dataP (mP en co da)=padB (relsP (mP en co da)) 256++(co++C):=by
  unfold dataP;rw [h1];split
  ·exact ⟨_,by unfold padB;simp only [List.append_assoc];rfl⟩
  ·exact ⟨[],by rw [List.append_nil]⟩
 obtain ⟨C,hC⟩:=h2;refine ⟨padB (relsP (mP en co da)) 256,C,?_,by omega⟩;unfold fileB;rw [if_neg (show ¬0<(mP en co da).tl.length from Nat.lt_irrefl 0)];exact hC
theorem PH.data (h:PH en co da) (hd:0<da.length):∃A,fileB (mP en co da)=A++(da++[])∧(A.length:Int)=dataB (mP en co da):=by
 refine ⟨padB (codeP (mP en co da)) 256,?_,by rw [padB_len256,up_codeP]⟩;unfold fileB;rw [if_neg (show ¬0<(mP en co da).tl.length from Nat.lt_irrefl 0)];unfold dataP;rw [if_pos (show 0<(mP en co da).da.length from hd),List.append_nil];rfl
end
end Go.Proofs.YtclgbdfkdbbinaaGreat
