/-
  What is proved here: words and contracts, a part of those that the statement rests on (P15).
  Conditions: none but that the arguments are values of their types.
-/
import Derived.Test.YtclgbdfkdbbinaaGreatP3
import Derived.Test.YtclgbdfkdbbinaaGreatP1
import Derived.Test.YtclgbdfkdbbinaaGreatP6
import Derived.Test.YtclgbdfkdbbinaaGreatP14
import Derived.Test.YtclgbdfkdbbinaaGreatP5
set_option linter.unusedVariables false
set_option linter.unusedSimpArgs false
set_option maxRecDepth 100000
set_option maxHeartbeats 12800000
namespace Go.Proofs.YtclgbdfkdbbinaaGreat
open Go.RowKit
theorem bind_eq (na inf ot se va si:Int) (w:World) (b0:0≤inf) (b1:inf≤255) :
 Calls Tryz.prog 161 #[.agg #[.int .u32 na,.int .u8 inf,.int .u8 ot,.int .u16 se,.int .u64 va,.int .u64 si]] w fun r w'=>r=.returned (.int .i64 (inf / 16))∧w'=w.alloc (.cells #[.int .u32 na,.int .u8 inf,.int .u8 ot,.int .u16 se,.int .u64 va,.int .u64 si] 76):=by
 go_enter Tryz.func161,Tryz.ntmps161
 go_wp2;go_ret;exact ⟨rfl,rfl⟩
theorem kind_eq (na inf ot se va si:Int) (w:World) (b0:0≤inf) (b1:inf≤255) :
 Calls Tryz.prog 59 #[.agg #[.int .u32 na,.int .u8 inf,.int .u8 ot,.int .u16 se,.int .u64 va,.int .u64 si]] w fun r w'=>r=.returned (.int .i64 (inf % 16))∧w'=w.alloc (.cells #[.int .u32 na,.int .u8 inf,.int .u8 ot,.int .u16 se,.int .u64 va,.int .u64 si] 76):=by
 go_enter Tryz.func59,Tryz.ntmps59
 go_wp2;go_ret;exact ⟨rfl,rfl⟩
theorem defined_eq (na inf ot se va si:Int) (w:World)  :
 Calls Tryz.prog 58 #[.agg #[.int .u32 na,.int .u8 inf,.int .u8 ot,.int .u16 se,.int .u64 va,.int .u64 si]] w fun r w'=>r=.returned (.bool (se != 0))∧w'=w.alloc (.cells #[.int .u32 na,.int .u8 inf,.int .u8 ot,.int .u16 se,.int .u64 va,.int .u64 si] 76):=by
 go_enter Tryz.func58,Tryz.ntmps58
 go_wp2;go_ret;exact ⟨rfl,rfl⟩
def knownY (k:Int):Bool:=decide (k=0∨k=1∨k=2∨k=6)
theorem k6_known_any (k:Int) (w:World):Calls Tryz.prog 162 #[.int .i64 k] w fun r w'=>r=.returned (.bool (knownY k))∧w=w':=by
 obtain ⟨b,hb⟩:∃b,knownY k=b:=⟨_,rfl⟩
 rw [hb];have HB:=Lib.hid hb;clear hb;go_enter Tryz.func162,Tryz.ntmps162
 go_wp2;all_goals (try simp only [beq_eq_false_iff_ne,beq_iff_eq,bne_iff_ne,bne_eq_false_iff_eq,ne_eq] at *)
 all_goals go_ret
 all_goals refine ⟨ret_bool ?_,rfl⟩
 all_goals rw [←HB.out]
 all_goals unfold knownY
 all_goals first | (symm;rw [decide_eq_true_eq];omega) | (symm;rw [decide_eq_false_iff_not];omega)
theorem k6_valid_any (s:Sy) (w:World) (h:s.Ok):Calls Tryz.prog 144 #[s.val] w fun r w'=>r=.returned (.bool (!badY 1 s))∧Below w.heap.size w w':=by
 obtain ⟨r,hr⟩:∃r,(!badY 1 s)=r:=⟨_,rfl⟩
 rw [hr];have HR:=Lib.hid hr;have HKN:=Lib.hid (fun w1=>k6_known_any (s.inf % 16) w1);have HKB:Hid (knownY (s.inf % 16)=decide (s.inf % 16=0∨s.inf % 16=1∨s.inf % 16=2∨s.inf % 16=6)):=Lib.hid rfl;generalize knownY (s.inf % 16)=kn at HKN HKB;clear hr;obtain ⟨⟨a0,a1⟩,⟨b0,b1⟩,⟨c0,c1⟩,⟨d0,d1⟩,⟨e0,e1⟩,⟨f0,f1⟩⟩:=h;obtain ⟨na,inf,ot,se,va,si⟩:=s;unfold Sy.val;simp only at *;have HBE:Hid (∀o,Below w.heap.size w (w.alloc o)):=Lib.hid (fun o=>(Below.refl _ _).alloc (Nat.le_refl _) o);have HKB2:Hid ((inf % 16=0∨inf % 16=1∨inf % 16=2∨inf % 16=6)↔kn=true):=Lib.hid (by rw [HKB.out,decide_eq_true_eq]);clear HKB;cases kn
 all_goals go_enter Tryz.func144,Tryz.ntmps144
 all_goals go_wp2_with (first | (go_at_call 161;refine (bind_eq _ _ _ _ _ _ _ b0 b1).mono ?_;rintro e w' ⟨rfl,rfl⟩) | (go_at_call 59;refine (kind_eq _ _ _ _ _ _ _ b0 b1).mono ?_;rintro e w' ⟨rfl,rfl⟩) | (go_at_call 162;refine (HKN.out _).mono ?_;rintro e w' ⟨rfl,rfl⟩) | (go_at_call 58;refine (defined_eq _ _ _ _ _ _ _).mono ?_;rintro e w' ⟨rfl,rfl⟩))
 all_goals go_ret
 all_goals refine ⟨ret_bool ?_,?_⟩
 all_goals first
  | exact (Below.refl _ _).alloc (Nat.le_refl _) _
  | exact ((Below.refl _ _).alloc (Nat.le_refl _) _).alloc (by simp) _
  | exact (((Below.refl _ _).alloc (Nat.le_refl _) _).alloc (by simp) _).alloc (by simp;omega) _
  | exact ((((Below.refl _ _).alloc (Nat.le_refl _) _).alloc (by simp) _).alloc (by simp;omega) _).alloc (by simp;omega) _
  | exact (((((Below.refl _ _).alloc (Nat.le_refl _) _).alloc (by simp) _).alloc (by simp;omega) _).alloc (by simp;omega) _).alloc (by simp;omega) _
  | skip
 all_goals have hk2:=HKB2.out
 all_goals simp only [iff_true,Bool.false_eq_true,iff_false] at hk2
 all_goals rw [←HR.out]
 all_goals clear HR HKB2 HBE
 all_goals unfold badY
 all_goals rw [if_neg (by decide)]
 all_goals (try simp only [beq_eq_false_iff_ne,beq_iff_eq,bne_iff_ne,bne_eq_false_iff_eq,ne_eq] at *)
 all_goals rw [Bool.eq_iff_iff]
 all_goals simp only [Bool.not_eq_true',decide_eq_false_iff_not,bne_iff_ne,ne_eq,iff_true,true_iff,Bool.false_eq_true,false_iff,Decidable.not_not]
 all_goals omega
theorem scheck_any (B:Nat) (a:Option Addr) (len cap:Nat) (L:List Sy) (w:World) (hs:Sy.Sl w B a len L) (hB:B≤w.heap.size) (hcap:len≤cap) (hcm:(cap:Int)≤9223372036854775807) :
 Calls Tryz.prog 104 #[.slice a len cap] w fun r w'=>r=.returned (.int .i64 (checkY L))∧Below w.heap.size w w':=by
 obtain ⟨r,hr⟩:∃r,checkY L=r:=⟨_,rfl⟩
 rw [hr];have hl:(len:Int)≤9223372036854775807:=by omega
 have HG:Hid ((∀k,k<len→badY k (L.getD k Sy.zero)=false)→r=0):=Lib.hid (fun h=>hr▸checkY_good (by rw [hs.hl];exact h));have HX:Hid (∀k,k<len→badY k (L.getD k Sy.zero)=true→r=11):=Lib.hid (fun k hk h=>hr▸checkY_bad (by rw [hs.hl];exact hk) h);have HS:=Lib.hid hs;clear hr hs;go_enter Tryz.func104,Tryz.ntmps104
 go_wp2;go_loopw [3,4,5,8] (fun _ _ _ i wr=>∃k:Nat,k≤len∧i=.int .i64 k∧(∀j,j<k→badY j (L.getD j Sy.zero)=false)∧Below w.heap.size w wr) (fun _ _ _ i _=>len-(intOf i).toNat)
 case atStart=>exact ⟨0,Nat.zero_le _,rfl,fun j hj=>absurd hj (by omega),Below.refl _ _⟩
 case round=>
  obtain ⟨k,hk,rfl,hno,hbel⟩:=hrel;by_cases hlt:k<len
  ·obtain ⟨b,off,rfl,hbB,hcell⟩:=HS.out.hc (by omega);obtain ⟨c0,c1,c2,c3,c4,c5⟩:=(hcell k hlt).below (hbel.mono hB) hbB;have hok:=HS.out.okAt hlt;have HNX:=Lib.hid (bad_upto hno);have HBD:=Lib.hid (HX.out k hlt);have hlti:(k:Int)<len:=by omega
   have hbs:=hbel.size;have HBE:Hid (∀o,Below w.heap.size w (wr.alloc o)):=Lib.hid (fun o=>hbel.alloc hbs o);have HB1:k≠0→badY k (L.getD k Sy.zero)=badY 1 (L.getD k Sy.zero):=fun h=>by unfold badY;rw [if_neg h,if_neg (by decide)]
   generalize L.getD k Sy.zero=s at c0 c1 c2 c3 c4 c5 hok HNX HBD HB1;have HV:=Lib.hid (fun w1=>k6_valid_any s w1 hok);obtain ⟨⟨a0,a1⟩,⟨b0,b1⟩,⟨o0,o1⟩,⟨d0,d1⟩,⟨e0,e1⟩,⟨f0,f1⟩⟩:=hok;obtain ⟨na,inf,ot,se,va,si⟩:=s;unfold Sy.val at HV;simp only at c0 c1 c2 c3 c4 c5 a0 a1 b0 b1 o0 o1 d0 d1 e0 e1 f0 f1 HV;have hbw:b<wr.heap.size:=by omega
   clear hcell hno hbel;by_cases hk0:k=0
   ·subst hk0;rw [show ((0:Nat):Int)=0 from rfl];simp only [Nat.zero_mul,Nat.add_zero] at c0 c1 c2 c3 c4 c5;clear HV HB1;go_wp2;all_goals (try simp only [beq_eq_false_iff_ne,beq_iff_eq,bne_iff_ne,bne_eq_false_iff_eq,ne_eq] at *)
    all_goals first
     | (go_ret
        refine ⟨k6_ret_i64 (HBD.out ?_).symm,HBE.out _⟩;unfold badY;rw [if_pos rfl,decide_eq_true_eq];simp only
        omega)
     | (refine ⟨⟨1,by omega,by go_num,HNX.out ?_,HBE.out _⟩,by (simp [intOf]<;>omega)⟩
        unfold badY;rw [if_pos rfl,decide_eq_false_iff_not];simp only
        omega)
   ·have hk0b:((k:Int)==0)=false:=by simpa using hk0
    rw [HB1 hk0] at HBD HNX;generalize badY 1 ⟨na,inf,ot,se,va,si⟩=y at HV HBD HNX;cases y
    ·go_wp2_with fail;refine (HV.out _).mono ?_;rintro e w2 ⟨rfl,hb2⟩;have HB2:=Lib.hid ((HBE.out _).trans (hb2.mono (by simp;omega)));clear hb2;go_wp2;go_roundw
     case rel=>exact ⟨k+1,by omega,by go_num,HNX.out (by trivial),HB2.out⟩
     case measure=>(simp [intOf]<;>omega)
    ·go_wp2_with fail;refine (HV.out _).mono ?_;rintro e w2 ⟨rfl,hb2⟩;have HB2:=Lib.hid ((HBE.out _).trans (hb2.mono (by simp;omega)));clear hb2;go_wp2;go_ret;exact ⟨k6_ret_i64 (HBD.out (by trivial)).symm,HB2.out⟩
  ·obtain rfl:k=len:=by omega
   have HB:=Lib.hid hbel;have HN:=Lib.hid (HG.out hno);clear hbel hno;go_wp2;go_ret;exact ⟨k6_ret_i64 HN.out.symm,HB.out⟩
def yI (m:Pm):Int×Pm:=
 if m.yn=0 then (0,m) else if 1024<m.yn then (13,m)
 else if (bytesI m.m.sg m.m.zs m.yt (24*m.yn)).1≠0 then ((bytesI m.m.sg m.m.zs m.yt (24*m.yn)).1,m)
 else let B:=tabY (bytesI m.m.sg m.m.zs m.yt (24*m.yn)).2
  if B.1≠0 then (B.1,m) else (checkY B.2,{ m with m:={ m.m with sy:=B.2 } })
theorem y9_ok (g:Nat):StepOk g 54 yI:=by
 intro p m w h;have H:=Lib.hid h;have hgl:=h.lt;obtain ⟨Z,hZ⟩:∃Z,yI m=Z:=⟨_,rfl⟩
 have HZ:=Lib.hid hZ;rw [hZ];clear hZ;have hva:=h.row.v3;have hvb:=h.row.v4;have hvb2:=Lib.hid hvb.2;have HTM:Hid ((bytesI m.m.sg m.m.zs m.yt (24*m.yn)).2.length≤65536∧∀n∈(bytesI m.m.sg m.m.zs m.yt (24*m.yn)).2,0≤n∧n≤255):=Lib.hid ⟨Nat.le_trans (bytesI_max _ _ _ _) h.row.lz,bytesI_bd h.row.okz _ _ _⟩;have HLD:Hid (m.yn≤1024→∀w1,Ps9 g w1 p m→Calls Tryz.prog 100 #[.pointer (some ⟨g,0,none⟩),.int .u64 m.yt,.int .u64 (24*m.yn)] w1 (CutPost (bytesI m.m.sg m.m.zs m.yt (24*m.yn)) w1)):=Lib.hid (fun hle w1 h1=>
  loaded9_any g p m m.yt _ w1 h1 hva.2.1 hva.2.2 (by have:=hvb.2.1;omega) (by have:=hvb.2.1;omega))
 have hsy:p.x.sy.n=m.m.sy.length:=h.sym.1.hl.symm;have hsl:=h.row.ly;obtain ⟨⟨k,e,s,c,⟨sga,sgn,sgc⟩,so,⟨nda,ndn,ndc⟩,⟨nma,nmn,nmc⟩,⟨sya,syn,syc⟩,⟨rla,rln,rlc⟩,⟨zsa,zsn,zsc⟩⟩,⟨fia,fin,fic⟩,⟨n0,n1,n2⟩,v0,v1,v2,v3,v4,v5,v6,⟨tba,tbn,tbc⟩⟩:=p;simp only at hva hvb HLD hsy;obtain ⟨rfl,-⟩:=hva;obtain ⟨rfl,-⟩:=hvb;have q17:w.cell? ⟨g,17,none⟩=some (.int .u64 m.yn):=h.box.cell 17;by_cases h0:m.yn=0
 ·have hz:=HZ.out;unfold yI at hz;rw [if_pos h0] at hz;subst hz;rw [h0] at q17;clear h h0 HZ HLD hvb2 HTM;go_enter Tryz.func54,Tryz.ntmps54
  go_wp2;go_ret;exact ⟨rfl,fun _=>⟨_,H.out⟩,Kq.refl _ _⟩
 have h0b:(m.yn==0)=false:=by simpa using h0
 by_cases h1:1024<m.yn
 ·have hz:=HZ.out;unfold yI at hz;rw [if_neg h0,if_pos h1] at hz;subst hz;clear h h0 HZ HLD hvb2 HTM;go_enter Tryz.func54,Tryz.ntmps54
  go_wp2;go_ret;exact ⟨rfl,fun e=>(by cases e),Kq.refl _ _⟩
 have h1':m.yn≤1024:=by omega
 have HLD2:=Lib.hid (HLD.out h1');have hz:=HZ.out;unfold yI at hz;rw [if_neg h0,if_neg h1] at hz;have HZ2:=Lib.hid hz.symm;clear hz HZ HLD;generalize bytesI m.m.sg m.m.zs m.yt (24*m.yn)=T at HLD2 HZ2 HTM;obtain ⟨te,TL⟩:=T;simp only at HZ2 HTM;obtain ⟨tn,htn⟩:∃tn,TL.length=tn:=⟨_,rfl⟩
 have HTN:=Lib.hid htn;obtain ⟨P0,hP0⟩:∃P0:World→Prop,P0=fun w1=>Ps9 g w1 ⟨⟨k,e,s,c,⟨sga,sgn,sgc⟩,so,⟨nda,ndn,ndc⟩,⟨nma,nmn,nmc⟩,⟨sya,syn,syc⟩,⟨rla,rln,rlc⟩,⟨zsa,zsn,zsc⟩⟩,⟨fia,fin,fic⟩,⟨n0,n1,n2⟩,v0,v1,v2,m.yt,m.yn,v5,v6,⟨tba,tbn,tbc⟩⟩ (m)∧Kq g w w1:=⟨_,rfl⟩
 have HP0:Hid (P0 (w.drew)):=Lib.hid (by rw [hP0];exact ⟨H.out.drew,(Kq.refl g w).drew (Nat.le_of_lt hgl)⟩);have HPB:Hid (∀w1,P0 w1→Blk w1 g #[.int .i64 k,.int .u64 e,.int .u64 s,.int .i64 c,.slice sga sgn sgc,.string so,.slice nda ndn ndc,.slice nma nmn nmc,.slice sya syn syc,.slice rla rln rlc,.slice zsa zsn zsc,.slice fia fin fic,.slice n0 n1 n2,.int .u64 v0,.int .u64 v1,.int .u64 v2,.int .u64 m.yt,.int .u64 m.yn,.int .u64 v5,.int .u64 v6,.slice tba tbn tbc] 72):=Lib.hid (fun w1 h1=>by rw [hP0] at h1;exact h1.1.box);have HPC:Hid (∀w1,P0 w1→Calls Tryz.prog 100 #[.pointer (some ⟨g,0,none⟩),.int .u64 m.yt,.int .u64 (24*m.yn)] w1 fun r w2=>(∃u,r=.returned (.tuple #[u,.int .i64 te])∧w2.ownsRow (g+1) 5 1 u tn (TL.map (Value.int .u8)))∧P0 w2∧Kq g w1 w2):=Lib.hid (fun w1 h1=>by
  rw [hP0] at h1;have hl:=h1.1.lt;refine (HLD2.out w1 h1.1).mono ?_;rintro r w2 ⟨⟨u,hr,ho⟩,hb⟩;simp only at ho;rw [htn] at ho;refine ⟨⟨u,hr,own_base9 ho hl⟩,?_,Kq.later (Nat.le_of_lt hl) hb⟩;rw [hP0];exact ⟨h1.1.later hb,h1.2.trans (Kq.later (Nat.le_of_lt hl) hb)⟩)
 have HR1:=Lib.hid (fun w1 (h1:P0 w1)=>(by rw [hP0] at h1;exact h1:Ps9 g w1 ⟨⟨k,e,s,c,⟨sga,sgn,sgc⟩,so,⟨nda,ndn,ndc⟩,⟨nma,nmn,nmc⟩,⟨sya,syn,syc⟩,⟨rla,rln,rlc⟩,⟨zsa,zsn,zsc⟩⟩,⟨fia,fin,fic⟩,⟨n0,n1,n2⟩,v0,v1,v2,m.yt,m.yn,v5,v6,⟨tba,tbn,tbc⟩⟩ m∧Kq g w w1));have HW1:Hid (IntKind.u64.wrap (24*m.yn)=24*m.yn):=Lib.hid (by have:=hvb2.out.1;rw [IntKind.wrap_u64];omega);have hvb3:=hvb2.out;clear h hP0 HLD2 htn hvb2;go_enter Tryz.func54,Tryz.ntmps54
 go_wp2_with fail;refine wp_region_word (by kernel_rfl) 54 rfl [18,19,20,21,22,23,24,25,26,27,28,29,30,17,31,32,3,4] (Kq (g)) (factsOf [Is (.pointer (some ⟨g,0,none⟩)),Is (.pointer (some ⟨g,0,none⟩)),Is (.pointer (some ⟨g,0,none⟩)),Is (.pointer (some ⟨g,12,none⟩)),Is (.pointer (some ⟨g,16,none⟩)),Is (.int .u64 m.yt),Is (.pointer (some ⟨g,0,none⟩)),Is (.pointer (some ⟨g,0,none⟩)),Is (.pointer (some ⟨g,12,none⟩)),Is (.pointer (some ⟨g,17,none⟩)),Is (.int .u64 m.yn),Is (.int .u64 (24*m.yn)),(OwE (g+1) 5 1 tn (TL.map (Value.int .u8)) te),(OwE (g+1) 5 1 tn (TL.map (Value.int .u8)) te),(Ow (g+1) 5 1 tn (TL.map (Value.int .u8))),Is (.int .i64 te),(Ow (g+1) 5 1 tn (TL.map (Value.int .u8))),Is (.int .i64 te)]) (Jo 12 (P0) (P0)) ?mono5 ?hj5 (by kernel_rfl) ?start5 ?steps5 ?fin5;case mono5=>exact factsOf_mono9 (mono9_cons (Is.mono9 _ _) (mono9_cons (Is.mono9 _ _) (mono9_cons (Is.mono9 _ _) (mono9_cons (Is.mono9 _ _) (mono9_cons (Is.mono9 _ _) (mono9_cons (Is.mono9 _ _) (mono9_cons (Is.mono9 _ _) (mono9_cons (Is.mono9 _ _) (mono9_cons (Is.mono9 _ _) (mono9_cons (Is.mono9 _ _) (mono9_cons (Is.mono9 _ _) (mono9_cons (Is.mono9 _ _) (mono9_cons (OwE.mono (Nat.lt_succ_self _) _ _ _ _ _) (mono9_cons (OwE.mono (Nat.lt_succ_self _) _ _ _ _ _) (mono9_cons (Ow.mono (Nat.lt_succ_self _) _ _ _ _) (mono9_cons (Is.mono9 _ _) (mono9_cons (Ow.mono (Nat.lt_succ_self _) _ _ _ _) (mono9_cons (Is.mono9 _ _) (mono9_nil _)))))))))))))))))))
 case hj5=>exact Jo.congr (by decide)
 case start5=>exact ⟨fun _=>HP0.out,fun h=>by cases h⟩
 case fin5=>
  intro v9 L w9 hJ hall hF;have hQ:=hJ.p1 (hall 12 (by decide));have f18:v9 0=.pointer (some ⟨g,0,none⟩):=hF 0 (by decide) (by decide);have f19:v9 1=.pointer (some ⟨g,0,none⟩):=hF 1 (by decide) (by decide);have f20:v9 2=.pointer (some ⟨g,0,none⟩):=hF 2 (by decide) (by decide);have f21:v9 3=.pointer (some ⟨g,12,none⟩):=hF 3 (by decide) (by decide);have f22:v9 4=.pointer (some ⟨g,16,none⟩):=hF 4 (by decide) (by decide);have f23:v9 5=.int .u64 m.yt:=hF 5 (by decide) (by decide);have f24:v9 6=.pointer (some ⟨g,0,none⟩):=hF 6 (by decide) (by decide);have f25:v9 7=.pointer (some ⟨g,0,none⟩):=hF 7 (by decide) (by decide);have f26:v9 8=.pointer (some ⟨g,12,none⟩):=hF 8 (by decide) (by decide);have f27:v9 9=.pointer (some ⟨g,17,none⟩):=hF 9 (by decide) (by decide);have f28:v9 10=.int .u64 m.yn:=hF 10 (by decide) (by decide);have f29:v9 11=.int .u64 (24*m.yn):=hF 11 (by decide) (by decide);have f32:v9 15=.int .i64 te:=hF 15 (by decide) (by decide);have hf3:(Ow (g+1) 5 1 tn (TL.map (Value.int .u8))) (v9 16) w9:=hF 16 (by decide) (by decide);have f4:v9 17=.int .i64 te:=hF 17 (by decide) (by decide);clear hJ hall hF;simp only [putAll,List.set_cons_succ,List.set_cons_zero,Nat.reduceAdd,f18,f19,f20,f21,f22,f23,f24,f25,f26,f27,f28,f29,f32,f4];clear f4 f18 f19 f20 f21 f22 f23 f24 f25 f26 f27 f28 f29 f32;obtain ⟨hst,hkq⟩:=HR1.out _ hQ;obtain ⟨⟨ba,bn,bc⟩,-,hbn,hbv⟩:=own_sh hf3;simp only at hbn hbv;subst hbn;unfold Ow at hf3;rw [hbv] at hf3⊢;have HKQ:=Lib.hid hkq;have HST:=Lib.hid hst;have HRW:=Lib.hid hf3;have hgl2:=hst.lt;clear hQ hkq hst hbv hf3;by_cases hte:te=0
  ·subst hte;have HBT:Hid (Bys w9 w9.heap.size ba bn TL∧bn≤bc∧(bc:Int)≤9223372036854775807):=Lib.hid (by
    obtain ⟨e0,l0,c0⟩:=own_n HRW.out;exact ⟨Bys.own HTM.out.2 HRW.out,l0,c0⟩)
   have hbn:bn≤65536:=by rw [←HTN.out];exact HTM.out.1
   have HTB:=Lib.hid (k6_stable_any w9.heap.size ba bn bc TL w9 HBT.out.1 (Nat.le_refl _) (by omega) HBT.out.2.1 HBT.out.2.2);have HYO:=Lib.hid (tabY_ok HTM.out.2);have HYL:Hid ((tabY TL).2.length≤65536):=Lib.hid (Nat.le_trans (tabY_len TL) HTM.out.1);have HZ3:Hid (Z=if (tabY TL).1≠0 then ((tabY TL).1,m) else (checkY (tabY TL).2,{ m with m:={ m.m with sy:=(tabY TL).2 } })):=Lib.hid (by have hz:=HZ2.out;rw [if_neg (by decide)] at hz;exact hz);generalize tabY TL=B at HTB HYO HYL HZ3;obtain ⟨be,BL⟩:=B;simp only at HTB HYO HYL HZ3;obtain ⟨yn,hyn⟩:∃yn,BL.length=yn:=⟨_,rfl⟩
   have HYN:=Lib.hid hyn;rw [hyn] at HTB;clear hyn HZ2 HRW;go_wp2_with fail;refine HTB.out.mono ?_;rintro r w4 ⟨⟨u,rfl,ho⟩,hb4⟩;obtain ⟨⟨xa,xn,xc⟩,-,hxn,rfl⟩:=own_sh ho;simp only at hxn;subst hxn;have hst4:=HST.out.later hb4;have hbx4:=hst4.box;have cc:w4.cell? ⟨g,8,none⟩=some (.slice sya syn syc):=hbx4.cell 8;have ff:=hbx4.frozen 8;have hgl4:=hbx4.lt;have hkq4:Kq g w w4:=HKQ.out.trans (Kq.later (Nat.le_of_lt hgl2) hb4);have hks:Kq g w4 (w4.setCell ⟨g,8,none⟩ (.slice xa xn xc)):=(Kq.refl g w4).set 8 _;have HKS:=Lib.hid (hkq4.trans hks);have HSS:Hid (Ps9 g (w4.setCell ⟨g,8,none⟩ (.slice xa xn xc)) ⟨⟨k,e,s,c,⟨sga,sgn,sgc⟩,so,⟨nda,ndn,ndc⟩,⟨nma,nmn,nmc⟩,⟨xa,xn,xc⟩,⟨rla,rln,rlc⟩,⟨zsa,zsn,zsc⟩⟩,⟨fia,fin,fic⟩,⟨n0,n1,n2⟩,v0,v1,v2,m.yt,m.yn,v5,v6,⟨tba,tbn,tbc⟩⟩ { m with m:={ m.m with sy:=BL } }):=Lib.hid (
    hst4.next hks (hbx4.set 8 (.slice xa xn xc)) { hst4.row.kp hks.kp (Nat.lt_succ_self _) with sy:=by simp only;rw [HYN.out];exact own_kp hks.kp (own_base9 ho hgl2) (Nat.lt_succ_self _),oky:=HYO.out,ly:=HYL.out } rfl rfl)
   have z8:(w4.setCell ⟨g,8,none⟩ (.slice xa xn xc)).cell? ⟨g,8,none⟩=some (.slice xa xn xc):=HSS.out.box.cell 8;have z8:(w4.setCell ⟨g,8,none⟩ (.slice xa xn xc)).cell? ⟨g,8,none⟩=some (.slice xa xn xc):=HSS.out.box.cell 8;clear ho hb4 hst4 hbx4 hkq4 hks HTB;by_cases hbe:be=0
   ·subst hbe;have hz:=HZ3.out;rw [if_neg (by decide)] at hz;subst hz;have HCK:Hid (Calls Tryz.prog 104 #[.slice xa xn xc] (w4.setCell ⟨g,8,none⟩ (.slice xa xn xc)) fun r w'=>r=.returned (.int .i64 (checkY BL))∧Below (w4.setCell ⟨g,8,none⟩ (.slice xa xn xc)).heap.size (w4.setCell ⟨g,8,none⟩ (.slice xa xn xc)) w'):=Lib.hid (by
     have h5:=HSS.out.sym;exact scheck_any _ xa xn xc BL _ h5.1 (Nat.le_refl _) h5.2.1 h5.2.2)
    go_wp2_with fail;refine HCK.out.mono ?_;rintro r w5 ⟨rfl,hb5⟩;have HS5:=Lib.hid (HSS.out.later hb5);have HK5:=Lib.hid (HKS.out.trans (Kq.later (by simp;omega) hb5));clear hb5;go_wp2;go_ret;exact ⟨rfl,fun _=>⟨_,HS5.out⟩,HK5.out⟩
   ·have hz:=HZ3.out;rw [if_pos hbe] at hz;subst hz;have hbb:(be != 0)=true:=by rw [bne_iff_ne];exact hbe
    go_wp2;go_ret;exact ⟨rfl,fun e=>absurd e hbe,HKS.out⟩
  ·have hz:=HZ2.out;rw [if_pos hte] at hz;subst hz;have hteb:(te != 0)=true:=by rw [bne_iff_ne];exact hte
   go_wp2;go_ret;exact ⟨rfl,fun e=>absurd e hte,HKQ.out⟩
 case steps5=>
  refine ⟨?_,?_,?_,?_,?_,?_,?_,?_,?_,?_,?_,?_,?_,?_,?_,?_,?_,?_,trivial⟩;all_goals intro L y w9 hJ hL hy0 hp0 hcl hun
  all_goals have hy:=Lib.hid hy0
  all_goals have hp:=Lib.hid hp0
  all_goals clear hy0 hp0 hun
  ·have e1:y 0=.pointer (some ⟨g,0,none⟩):=hy.out 0 (by decide);have hJ3:=Lib.hid (hJ.pure (show (12:Nat)≠0 by decide));intro K Q hK;clear hcl hJ;obtain ⟨A,hA,v1⟩:=evA1 (n:=54) e1 (by decide);rw [hA] at hK⊢;clear hA hy hp;go_simp;exact hK _ _ ⟨Kq.refl _ _,fun _=>rfl,hJ3.out⟩
  ·have e1:y 0=.pointer (some ⟨g,0,none⟩):=hy.out 0 (by decide);have hJ3:=Lib.hid (hJ.pure (show (12:Nat)≠1 by decide));intro K Q hK;clear hcl hJ;obtain ⟨A,hA,v1⟩:=evA1 (n:=54) e1 (by decide);rw [hA] at hK⊢;clear hA hy hp;go_simp;exact hK _ _ ⟨Kq.refl _ _,fun _=>rfl,hJ3.out⟩
  ·have e1:y 19=.pointer (some ⟨g,0,none⟩):=(hp.out 1 (by decide)).2 (by decide);have hJ3:=Lib.hid (hJ.pure (show (12:Nat)≠2 by decide));intro K Q hK;clear hcl hJ;obtain ⟨A,hA,v1⟩:=evA1 (n:=54) e1 (by decide);rw [hA] at hK⊢;clear hA hy hp;go_simp;exact hK _ _ ⟨Kq.refl _ _,fun _=>rfl,hJ3.out⟩
  ·have e1:y 20=.pointer (some ⟨g,0,none⟩):=(hp.out 2 (by decide)).2 (by decide);have hJ3:=Lib.hid (hJ.pure (show (12:Nat)≠3 by decide));intro K Q hK;clear hcl hJ;obtain ⟨A,hA,v1⟩:=evA1 (n:=54) e1 (by decide);rw [hA] at hK⊢;clear hA hy hp;go_simp;exact hK _ _ ⟨Kq.refl _ _,fun _=>rfl,hJ3.out⟩
  ·have e1:y 21=.pointer (some ⟨g,12,none⟩):=(hp.out 3 (by decide)).2 (by decide);have hJ3:=Lib.hid (hJ.pure (show (12:Nat)≠4 by decide));intro K Q hK;clear hcl hJ;obtain ⟨A,hA,v1⟩:=evA1 (n:=54) e1 (by decide);rw [hA] at hK⊢;clear hA hy hp;go_simp;exact hK _ _ ⟨Kq.refl _ _,fun _=>rfl,hJ3.out⟩
  ·have e1:y 22=.pointer (some ⟨g,16,none⟩):=(hp.out 4 (by decide)).2 (by decide);have hLj:L 12=false:=by
    cases h:L 12 with
    | false=>rfl
    | true=>have:=(hcl 12 _ rfl h 5 (by decide));rw [hL] at this;cases this
   have hP:=Lib.hid (hJ.p0 hLj);have q16:w9.cell? ⟨g,16,none⟩=some (.int .u64 m.yt):=(HPB.out _ hP.out).cell 16;have hJ3:=Lib.hid (hJ.pure (show (12:Nat)≠5 by decide));intro K Q hK;clear hcl hJ;obtain ⟨A,hA,v1⟩:=evA1 (n:=54) e1 (by decide);rw [hA] at hK⊢;clear hA hy hp;go_simp;exact hK _ _ ⟨Kq.refl _ _,fun _=>rfl,hJ3.out⟩
  ·have e1:y 0=.pointer (some ⟨g,0,none⟩):=hy.out 0 (by decide);have hJ3:=Lib.hid (hJ.pure (show (12:Nat)≠6 by decide));intro K Q hK;clear hcl hJ;obtain ⟨A,hA,v1⟩:=evA1 (n:=54) e1 (by decide);rw [hA] at hK⊢;clear hA hy hp;go_simp;exact hK _ _ ⟨Kq.refl _ _,fun _=>rfl,hJ3.out⟩
  ·have e1:y 24=.pointer (some ⟨g,0,none⟩):=(hp.out 6 (by decide)).2 (by decide);have hJ3:=Lib.hid (hJ.pure (show (12:Nat)≠7 by decide));intro K Q hK;clear hcl hJ;obtain ⟨A,hA,v1⟩:=evA1 (n:=54) e1 (by decide);rw [hA] at hK⊢;clear hA hy hp;go_simp;exact hK _ _ ⟨Kq.refl _ _,fun _=>rfl,hJ3.out⟩
  ·have e1:y 25=.pointer (some ⟨g,0,none⟩):=(hp.out 7 (by decide)).2 (by decide);have hJ3:=Lib.hid (hJ.pure (show (12:Nat)≠8 by decide));intro K Q hK;clear hcl hJ;obtain ⟨A,hA,v1⟩:=evA1 (n:=54) e1 (by decide);rw [hA] at hK⊢;clear hA hy hp;go_simp;exact hK _ _ ⟨Kq.refl _ _,fun _=>rfl,hJ3.out⟩
  ·have e1:y 26=.pointer (some ⟨g,12,none⟩):=(hp.out 8 (by decide)).2 (by decide);have hJ3:=Lib.hid (hJ.pure (show (12:Nat)≠9 by decide));intro K Q hK;clear hcl hJ;obtain ⟨A,hA,v1⟩:=evA1 (n:=54) e1 (by decide);rw [hA] at hK⊢;clear hA hy hp;go_simp;exact hK _ _ ⟨Kq.refl _ _,fun _=>rfl,hJ3.out⟩
  ·have e1:y 27=.pointer (some ⟨g,17,none⟩):=(hp.out 9 (by decide)).2 (by decide);have hLj:L 12=false:=by
    cases h:L 12 with
    | false=>rfl
    | true=>have:=(hcl 11 _ rfl (hcl 12 _ rfl h 11 (by decide)) 10 (by decide));rw [hL] at this;cases this
   have hP:=Lib.hid (hJ.p0 hLj);have q17:w9.cell? ⟨g,17,none⟩=some (.int .u64 m.yn):=(HPB.out _ hP.out).cell 17;have hJ3:=Lib.hid (hJ.pure (show (12:Nat)≠10 by decide));intro K Q hK;clear hcl hJ;obtain ⟨A,hA,v1⟩:=evA1 (n:=54) e1 (by decide);rw [hA] at hK⊢;clear hA hy hp;go_simp;exact hK _ _ ⟨Kq.refl _ _,fun _=>rfl,hJ3.out⟩
  ·have e1:y 28=.int .u64 m.yn:=(hp.out 10 (by decide)).2 (by decide);have hJ3:=Lib.hid (hJ.pure (show (12:Nat)≠11 by decide));intro K Q hK;clear hcl hJ;obtain ⟨A,hA,v1⟩:=evA1 (n:=54) e1 (by decide);rw [hA] at hK⊢;clear hA hy hp;go_simp;exact hK _ _ ⟨Kq.refl _ _,fun _=>by rw [HW1.out];rfl,hJ3.out⟩
  ·have e1:y 18=.pointer (some ⟨g,0,none⟩):=(hp.out 0 (by decide)).2 (by decide);have e2:y 23=.int .u64 m.yt:=(hp.out 5 (by decide)).2 (by decide);have e3:y 29=.int .u64 (24*m.yn):=(hp.out 11 (by decide)).2 (by decide);have hP:=Lib.hid (hJ.p0 hL);intro K Q hK;clear hcl hJ;obtain ⟨A,hA,v1,v2,v3⟩:=evA3 (n:=54) e1 e2 e3 (by decide) (by decide) (by decide);rw [hA] at hK⊢;clear hA hy hp;go_simp;go_at_call 100
   refine (HPC.out _ hP.out).mono ?_;rintro r w7 ⟨⟨u,rfl,ho⟩,hp7,hk7⟩;exact hK _ _ ⟨hk7,fun _=>⟨u,rfl,ho⟩,Jo.second hp7⟩
  ·have e1:(OwE (g+1) 5 1 tn (TL.map (Value.int .u8)) te) (y 30) w9:=(hp.out 12 (by decide)).2 (by decide);obtain ⟨u1,hv1,ho1⟩:=e1;have hJ3:=Lib.hid (hJ.pure (show (12:Nat)≠13 by decide));intro K Q hK;clear hcl hJ;obtain ⟨A,hA,v1⟩:=evA1 (n:=54) hv1 (by decide);rw [hA] at hK⊢;clear hA hy hp;go_simp;exact hK _ _ ⟨Kq.refl _ _,fun _=>⟨_,rfl,ho1⟩,hJ3.out⟩
  ·have e1:(OwE (g+1) 5 1 tn (TL.map (Value.int .u8)) te) (y 17) w9:=(hp.out 13 (by decide)).2 (by decide);obtain ⟨u1,hv1,ho1⟩:=e1;have hJ3:=Lib.hid (hJ.pure (show (12:Nat)≠14 by decide));intro K Q hK;clear hcl hJ;obtain ⟨A,hA,v1⟩:=evA1 (n:=54) hv1 (by decide);rw [hA] at hK⊢;clear hA hy hp;go_simp;exact hK _ _ ⟨Kq.refl _ _,fun _=>ho1,hJ3.out⟩
  ·have e1:(OwE (g+1) 5 1 tn (TL.map (Value.int .u8)) te) (y 17) w9:=(hp.out 13 (by decide)).2 (by decide);obtain ⟨u1,hv1,ho1⟩:=e1;have hJ3:=Lib.hid (hJ.pure (show (12:Nat)≠15 by decide));intro K Q hK;clear hcl hJ;obtain ⟨A,hA,v1⟩:=evA1 (n:=54) hv1 (by decide);rw [hA] at hK⊢;clear hA hy hp;go_simp;exact hK _ _ ⟨Kq.refl _ _,fun _=>rfl,hJ3.out⟩
  ·have e1:(Ow (g+1) 5 1 tn (TL.map (Value.int .u8))) (y 31) w9:=(hp.out 14 (by decide)).2 (by decide);have hv1:y 31=y 31:=rfl;have hJ3:=Lib.hid (hJ.pure (show (12:Nat)≠16 by decide));intro K Q hK;clear hcl hJ;obtain ⟨A,hA,v1⟩:=evA1 (n:=54) hv1 (by decide);rw [hA] at hK⊢;clear hA hy hp;go_simp;exact hK _ _ ⟨Kq.refl _ _,fun _=>e1,hJ3.out⟩
  ·have e1:y 32=.int .i64 te:=(hp.out 15 (by decide)).2 (by decide);have hJ3:=Lib.hid (hJ.pure (show (12:Nat)≠17 by decide));intro K Q hK;clear hcl hJ;obtain ⟨A,hA,v1⟩:=evA1 (n:=54) e1 (by decide);rw [hA] at hK⊢;clear hA hy hp;go_simp;exact hK _ _ ⟨Kq.refl _ _,fun _=>rfl,hJ3.out⟩
def k7_Made (zs:List Int) (u:Value) (w:World):Prop:=∃g c,u=.slice (some ⟨g,0,none⟩) zs.length c∧zs.length≤c∧(c:Int)≤9223372036854775807∧Bys w w.heap.size (some ⟨g,0,none⟩) zs.length zs
theorem k7_own_made {w:World} {base:Nat} {u:Value} {zs:List Int} (h:w.ownsRow base 5 1 u zs.length (zs.map (Value.int .u8))) (h0:0<zs.length) (hz:∀n∈zs,0≤n∧n≤255):k7_Made zs u w:=by
 obtain ⟨g,c,rfl,_⟩:=own_some h h0;have hcap:zs.length≤c∧c≤maxLen:=by
  rcases h.2 with ⟨hx,_⟩ | ⟨g,c,cur,hx,_,_,h3,h4,_⟩
  ·cases hx
  ·injection hx with _ _ hx;subst hx;exact ⟨h3,h4⟩
 exact ⟨g,c,rfl,hcap.1,by have:=hcap.2;unfold maxLen at this;omega,Bys.own hz h⟩
theorem lknown_any (t:Int) (w:World):Calls Tryz.prog 163 #[.int .u32 t] w fun r w'=>r=.returned (.bool (knownL t))∧w=w':=by
 obtain ⟨b,hb⟩:∃b,knownL t=b:=⟨_,rfl⟩
 rw [hb];have HB:=Lib.hid hb;clear hb;go_enter Tryz.func163,Tryz.ntmps163
 go_wp2;all_goals (try simp only [beq_eq_false_iff_ne,beq_iff_eq,bne_iff_ne,bne_eq_false_iff_eq,ne_eq] at *)
 all_goals go_ret
 all_goals refine ⟨ret_bool ?_,rfl⟩
 all_goals rw [←HB.out]
 all_goals unfold knownL
 all_goals first | (symm;rw [decide_eq_true_eq];omega) | (symm;rw [decide_eq_false_iff_not];omega)
def aloneL (t:Int):Bool:=decide (t=0∨t=8)
theorem lalone_any (t:Int) (w:World):Calls Tryz.prog 164 #[.int .u32 t] w fun r w'=>r=.returned (.bool (aloneL t))∧w=w':=by
 obtain ⟨b,hb⟩:∃b,aloneL t=b:=⟨_,rfl⟩
 rw [hb];have HB:=Lib.hid hb;clear hb;go_enter Tryz.func164,Tryz.ntmps164
 go_wp2;all_goals (try simp only [beq_eq_false_iff_ne,beq_iff_eq,bne_iff_ne,bne_eq_false_iff_eq,ne_eq] at *)
 all_goals go_ret
 all_goals refine ⟨ret_bool ?_,rfl⟩
 all_goals rw [←HB.out]
 all_goals unfold aloneL
 all_goals (rw [Bool.eq_iff_iff];simp only [decide_eq_true_eq,beq_iff_eq,Bool.false_eq_true,Bool.true_eq_false,true_iff,false_iff,iff_true,iff_false])
 all_goals (try rw [Bool.or_eq_true,beq_iff_eq,beq_iff_eq])
 all_goals (try omega)
theorem errL_cases {s:Rl} {n:Int} (hk:knownL s.ty=true) (h0:0≤s.sy) :
 (s.sy=0→aloneL s.ty=false→errL s n=11)∧(s.sy=0→aloneL s.ty=true→errL s n=0)∧(s.sy≠0→n≤s.sy→errL s n=10)∧
 (s.sy≠0→s.sy<n→aloneL s.ty=true→errL s n=11)∧(s.sy≠0→s.sy<n→aloneL s.ty=false→errL s n=0):=by
 have e:errL s n=if 0<s.sy∧(n<0∨n≤s.sy) then 10 else if ((s.ty=0∨s.ty=8)∧s.sy≠0)∨(¬(s.ty=0∨s.ty=8)∧s.sy=0) then 11 else 0:=by
  unfold errL;rw [if_neg (by rw [hk];decide)]
 rw [e];unfold aloneL;simp only [decide_eq_true_eq,decide_eq_false_iff_not];refine ⟨fun a b=>?_,fun a b=>?_,fun a b=>?_,fun a b c=>?_,fun a b c=>?_⟩
 ·rw [if_neg (by omega),if_pos (by omega)]
 ·rw [if_neg (by omega),if_neg (by omega)]
 ·rw [if_pos (by omega)]
 ·rw [if_neg (by omega),if_pos (by omega)]
 ·rw [if_neg (by omega),if_neg (by omega)]
theorem lchk_any (s:Rl) (n:Int) (w:World) (h:s.Ok) (hn0:-9223372036854775808≤n) (hn1:n≤9223372036854775807) :
 Calls Tryz.prog 147 #[s.val,.int .i64 n] w fun r w'=>r=.returned (.int .i64 (errL s n))∧Below w.heap.size w w':=by
 have hcs:=fun hk=>errL_cases (n:=n) hk h.sy.1;have hbad:knownL s.ty=false→errL s n=33:=fun h=>by unfold errL;rw [if_pos h]
 generalize errL s n=r at hcs hbad;have HKN:=Lib.hid (fun w1=>lknown_any s.ty w1);have HAL:=Lib.hid (fun w1=>lalone_any s.ty w1);obtain ⟨⟨a0,a1⟩,⟨b0,b1⟩,⟨c0,c1⟩,⟨d0,d1⟩⟩:=h;obtain ⟨of,ty,sy,ad⟩:=s;unfold Rl.val;simp only at *;have HBE:Hid (∀o,Below w.heap.size w (w.alloc o)):=Lib.hid (fun o=>(Below.refl _ _).alloc (Nat.le_refl _) o);generalize knownL ty=kn at HKN hcs hbad;generalize aloneL ty=al at HAL hcs;cases kn
 ·obtain rfl:=hbad rfl;clear hcs hbad;go_enter Tryz.func147,Tryz.ntmps147
  go_wp2_with (go_at_call 163;refine (HKN.out _).mono ?_;rintro e w' ⟨rfl,rfl⟩);go_ret;exact ⟨rfl,HBE.out _⟩
 ·obtain ⟨h1,h2,h3,h4,h5⟩:=hcs rfl;clear hcs hbad;by_cases h0:sy=0
  ·subst h0;have hr:r=if al then 0 else 11:=by cases al;exact h1 rfl rfl;exact h2 rfl rfl
   clear h1 h2 h3 h4 h5;cases al
   all_goals obtain rfl:=hr
   all_goals go_enter Tryz.func147,Tryz.ntmps147
   all_goals go_wp2_with (go_at_call 163;refine (HKN.out _).mono ?_;rintro e w' ⟨rfl,rfl⟩)
   all_goals go_quiet (first | (go_at_call 164;refine Calls.quiet_of_same ((HAL.out _).mono fun _ _ h=>⟨h.1,h.2.symm⟩)))
   all_goals go_wp2
   all_goals go_ret
   all_goals exact ⟨rfl,below_drewN (HBE.out _) _⟩
  ·have hs:(sy != 0)=true:=by rw [bne_iff_ne];exact h0
   have hs2:(sy==0)=false:=by rw [beq_eq_false_iff_ne];exact h0
   by_cases hge:n≤sy
   ·obtain rfl:=h3 h0 hge;clear h1 h2 h3 h4 h5 h0;go_enter Tryz.func147,Tryz.ntmps147
    go_wp2_with (go_at_call 163;refine (HKN.out _).mono ?_;rintro e w' ⟨rfl,rfl⟩);go_ret;exact ⟨rfl,HBE.out _⟩
   ·have hr:r=if al then 11 else 0:=by cases al;exact h5 h0 (by omega) rfl;exact h4 h0 (by omega) rfl
    clear h1 h2 h3 h4 h5 h0;cases al
    all_goals obtain rfl:=hr
    all_goals go_enter Tryz.func147,Tryz.ntmps147
    all_goals go_wp2_with (go_at_call 163;refine (HKN.out _).mono ?_;rintro e w' ⟨rfl,rfl⟩)
    all_goals go_quiet (first | (go_at_call 164;refine Calls.quiet_of_same ((HAL.out _).mono fun _ _ h=>⟨h.1,h.2.symm⟩)))
    all_goals go_wp2
    all_goals go_ret
    all_goals exact ⟨rfl,below_drewN (HBE.out _) _⟩
theorem lcheck_any (B:Nat) (a:Option Addr) (len cap:Nat) (L:List Rl) (n:Int) (w:World) (hs:Rl.Sl w B a len L) (hB:B≤w.heap.size) (hcap:len≤cap) (hcm:(cap:Int)≤9223372036854775807) (hn0:-9223372036854775808≤n) (hn1:n≤9223372036854775807) :
 Calls Tryz.prog 106 #[.slice a len cap,.int .i64 n] w fun r w'=>r=.returned (.int .i64 (checkL L n))∧Below w.heap.size w w':=by
 obtain ⟨r,hr⟩:∃r,checkL L n=r:=⟨_,rfl⟩
 rw [hr];have hl:(len:Int)≤9223372036854775807:=by omega
 have HG:Hid ((∀k,k<len→errL (L.getD k Rl.zero) n=0)→r=0):=Lib.hid (fun h=>hr▸checkL_good (by rw [hs.hl];exact h));have HX:Hid (∀k,k<len→(∀j,j<k→errL (L.getD j Rl.zero) n=0)→errL (L.getD k Rl.zero) n≠0→r=errL (L.getD k Rl.zero) n):=Lib.hid (fun k hk h0 h=>hr▸checkL_bad (by rw [hs.hl];exact hk) h0 h);have HS:=Lib.hid hs;clear hr hs;go_enter Tryz.func106,Tryz.ntmps106
 go_wp2;go_loopw [6,7,10] (fun _ _ i wr=>∃k:Nat,k≤len∧i=.int .i64 k∧(∀j,j<k→errL (L.getD j Rl.zero) n=0)∧Below w.heap.size w wr) (fun _ _ i _=>len-(intOf i).toNat)
 case atStart=>exact ⟨0,Nat.zero_le _,rfl,fun j hj=>absurd hj (by omega),Below.refl _ _⟩
 case round=>
  obtain ⟨k,hk,rfl,hno,hbel⟩:=hrel;by_cases hlt:k<len
  ·obtain ⟨b,off,rfl,hbB,hcell⟩:=HS.out.hc (by omega);obtain ⟨c0,c1,c2,c3⟩:=(hcell k hlt).below (hbel.mono hB) hbB;have hok:=HS.out.okAt hlt;have HNX:=Lib.hid (good_upto hno);have HBD:=Lib.hid (HX.out k hlt hno);have hlti:(k:Int)<len:=by omega
   have hbs:=hbel.size;have HBE:Hid (∀o,Below w.heap.size w (wr.alloc o)):=Lib.hid (fun o=>hbel.alloc hbs o);generalize L.getD k Rl.zero=s at c0 c1 c2 c3 hok HNX HBD;have HV:=Lib.hid (fun w1=>lchk_any s n w1 hok hn0 hn1);obtain ⟨⟨a0,a1⟩,⟨b0,b1⟩,⟨o0,o1⟩,⟨d0,d1⟩⟩:=hok;obtain ⟨of,ty,sy,ad⟩:=s;unfold Rl.val at HV;simp only at c0 c1 c2 c3 a0 a1 b0 b1 o0 o1 d0 d1 HV;have hbw:b<wr.heap.size:=by omega
   clear hcell hno hbel;generalize errL ⟨of,ty,sy,ad⟩ n=y at HV HBD HNX;by_cases hy:y=0
   ·subst hy;go_wp2_with fail;refine (HV.out _).mono ?_;rintro e w2 ⟨rfl,hb2⟩;have HB2:=Lib.hid ((HBE.out _).trans (hb2.mono (by simp;omega)));clear hb2;go_wp2;go_roundw
    case rel=>exact ⟨k+1,by omega,by go_num,HNX.out (by trivial),HB2.out⟩
    case measure=>(simp [intOf]<;>omega)
   ·have hyb:(y != 0)=true:=by rw [bne_iff_ne];exact hy
    have HRY:=Lib.hid (HBD.out hy);clear hy;go_wp2_with fail;refine (HV.out _).mono ?_;rintro e w2 ⟨rfl,hb2⟩;have HB2:=Lib.hid ((HBE.out _).trans (hb2.mono (by simp;omega)));clear hb2;go_wp2;go_ret;exact ⟨k7_ret_i64 HRY.out.symm,HB2.out⟩
  ·obtain rfl:k=len:=by omega
   have HB:=Lib.hid hbel;have HN:=Lib.hid (HG.out hno);clear hbel hno;go_wp2;go_ret;exact ⟨k7_ret_i64 HN.out.symm,HB.out⟩
theorem Blk.c3 {w:World} {g:Nat} {v0 v1 v2:Value} {t:TypeId} (h:Blk w g #[v0,v1,v2] t) :
 w.cell? ⟨g,0,none⟩=some v0∧w.cell? ⟨g,1,none⟩=some v1∧w.cell? ⟨g,2,none⟩=some v2:=⟨h.cell 0,h.cell 1,h.cell 2⟩
theorem Blk.f3 {w:World} {g:Nat} {v0 v1 v2:Value} {t:TypeId} (h:Blk w g #[v0,v1,v2] t) :
 w.frozen? ⟨g,0,none⟩=false∧w.frozen? ⟨g,1,none⟩=false∧w.frozen? ⟨g,2,none⟩=false:=⟨h.frozen 0,h.frozen 1,h.frozen 2⟩
theorem k7_piece_piece {zs:List Int} {p n q k:Nat} (h:q+k≤n):piece (piece zs p n) q k=piece zs (p+q) k:=by
 unfold piece;rw [List.drop_take,List.take_take,List.drop_drop,Nat.min_eq_left (by omega)]
theorem lread_ok (B:Nat) (a:Option Addr) (len cap:Nat) (zs:List Int) (w:World) (hb:Bys w B a len zs) (hB:B≤w.heap.size) (hl:(len:Int)≤9223372036854775807) (hs:24≤len) :
 Calls Tryz.prog 146 #[.slice a len cap] w fun r w'=>r=.returned (.agg #[.int .u64 (num (piece zs 0 8)),.int .u64 (num (piece zs 8 8)),.int .u64 (num (piece zs 16 8))])∧Below w.heap.size w w':=by
 have HB:=Lib.hid hb;obtain ⟨x0,h0⟩:∃x,num (piece zs 0 8)=x:=⟨_,rfl⟩
 obtain ⟨x1,h1⟩:∃x,num (piece zs 8 8)=x:=⟨_,rfl⟩
 obtain ⟨x2,h2⟩:∃x,num (piece zs 16 8)=x:=⟨_,rfl⟩
 rw [h0,h1,h2];have HG:Hid (∀w1,Below w.heap.size w w1→
  Calls Tryz.prog 131 #[.slice a len cap,.int .u64 0,.int .i64 8] w1 (fun e w'=>e=.returned (.tuple #[.int .u64 x0,.int .i64 0])∧w1=w')∧
  Calls Tryz.prog 131 #[.slice a len cap,.int .u64 8,.int .i64 8] w1 (fun e w'=>e=.returned (.tuple #[.int .u64 x1,.int .i64 0])∧w1=w')∧
  Calls Tryz.prog 131 #[.slice a len cap,.int .u64 16,.int .i64 8] w1 (fun e w'=>e=.returned (.tuple #[.int .u64 x2,.int .i64 0])∧w1=w')):=Lib.hid (fun w1 hw=>by
  have hq:=hb.below (hw.mono hB);rw [←h0,←h1,←h2];exact ⟨get_ok B a len cap zs 0 8 w1 hq (by decide) hl (by omega),get_ok B a len cap zs 8 8 w1 hq (by decide) hl (by omega),get_ok B a len cap zs 16 8 w1 hq (by decide) hl (by omega)⟩)
 have HL0:Hid (Blk ((w.alloc (.cells #[.int .u64 0,.int .u64 0,.int .u64 0] 184)).alloc (.cells #[.int .u64 0,.int .u64 0,.int .u64 0] 184)) w.heap.size #[.int .u64 0,.int .u64 0,.int .u64 0] 184):=Lib.hid ((Blk.new w _ _).alloc _);have HL1:Hid (Blk ((w.alloc (.cells #[.int .u64 0,.int .u64 0,.int .u64 0] 184)).alloc (.cells #[.int .u64 0,.int .u64 0,.int .u64 0] 184)) (w.heap.size+1) #[.int .u64 0,.int .u64 0,.int .u64 0] 184):=Lib.hid (by
  have:=Blk.new (w.alloc (.cells #[.int .u64 0,.int .u64 0,.int .u64 0] 184)) #[.int .u64 0,.int .u64 0,.int .u64 0] 184;rw [World.size_alloc] at this;exact this)
 have HBL:Hid (Below w.heap.size w ((w.alloc (.cells #[.int .u64 0,.int .u64 0,.int .u64 0] 184)).alloc (.cells #[.int .u64 0,.int .u64 0,.int .u64 0] 184))):=Lib.hid (((Below.refl _ _).alloc (Nat.le_refl _) _).alloc (by simp) _);clear hb h0 h1 h2;go_enter Tryz.func146,Tryz.ntmps146
 go_wp2;go_loopw [4,5] (fun _ i wr=>∃k:Nat,k≤3∧i=.int .i64 k∧Blk wr w.heap.size #[.int .u64 0,.int .u64 0,.int .u64 0] 184∧Blk wr (w.heap.size+1) #[.int .u64 (if 0<k then x0 else 0),.int .u64 (if 1<k then x1 else 0),.int .u64 (if 2<k then x2 else 0)] 184∧Below w.heap.size w wr) (fun _ i _=>3-(intOf i).toNat)
 case atStart=>exact ⟨0,Nat.zero_le _,rfl,HL0.out,HL1.out,HBL.out⟩
 case round=>
  obtain ⟨k,hk,rfl,hr,hx,hbel⟩:=hrel;have hor:k=0∨k=1∨k=2∨k=3:=by omega
  obtain ⟨G0,G1,G2⟩:=HG.out _ hbel;have hbs:=hbel.size;rcases hor with rfl | rfl | rfl | rfl
  ·rw [show ((0:Nat):Int)=0 from rfl];have hx':Blk wr (w.heap.size+1) #[.int .u64 0,.int .u64 0,.int .u64 0] 184:=hx;obtain ⟨c0,c1,c2⟩:=hx'.c3;obtain ⟨f0,f1,f2⟩:=hx'.f3;have HR:=Lib.hid (hr.setOther (a:=⟨w.heap.size+1,0,none⟩) (Nat.ne_of_lt (Nat.lt_succ_self _)) (.int .u64 x0));have HX:=Lib.hid (hx'.set 0 (.int .u64 x0));have HE:=Lib.hid (hbel.setCell (p:=⟨w.heap.size+1,0,none⟩) (Nat.le_succ _) (.int .u64 x0));have H0:=Lib.hid G0;clear hr hx hx' hbel G0 G1 G2;go_wp2_with (go_at_call 131;with_reducible refine H0.out.mono ?_;rintro e w' ⟨rfl,rfl⟩);go_roundw
   case rel=>exact ⟨1,by omega,by go_num,HR.out,HX.out,HE.out⟩
   case measure=>(simp [intOf]<;>omega)
  ·rw [show ((1:Nat):Int)=1 from rfl];have hx':Blk wr (w.heap.size+1) #[.int .u64 x0,.int .u64 0,.int .u64 0] 184:=hx;obtain ⟨c0,c1,c2⟩:=hx'.c3;obtain ⟨f0,f1,f2⟩:=hx'.f3;have HR:=Lib.hid (hr.setOther (a:=⟨w.heap.size+1,1,none⟩) (Nat.ne_of_lt (Nat.lt_succ_self _)) (.int .u64 x1));have HX:=Lib.hid (hx'.set 1 (.int .u64 x1));have HE:=Lib.hid (hbel.setCell (p:=⟨w.heap.size+1,1,none⟩) (Nat.le_succ _) (.int .u64 x1));have H0:=Lib.hid G1;clear hr hx hx' hbel G0 G1 G2;go_wp2_with (go_at_call 131;with_reducible refine H0.out.mono ?_;rintro e w' ⟨rfl,rfl⟩);go_roundw
   case rel=>exact ⟨2,by omega,by go_num,HR.out,HX.out,HE.out⟩
   case measure=>(simp [intOf]<;>omega)
  ·rw [show ((2:Nat):Int)=2 from rfl];have hx':Blk wr (w.heap.size+1) #[.int .u64 x0,.int .u64 x1,.int .u64 0] 184:=hx;obtain ⟨c0,c1,c2⟩:=hx'.c3;obtain ⟨f0,f1,f2⟩:=hx'.f3;have HR:=Lib.hid (hr.setOther (a:=⟨w.heap.size+1,2,none⟩) (Nat.ne_of_lt (Nat.lt_succ_self _)) (.int .u64 x2));have HX:=Lib.hid (hx'.set 2 (.int .u64 x2));have HE:=Lib.hid (hbel.setCell (p:=⟨w.heap.size+1,2,none⟩) (Nat.le_succ _) (.int .u64 x2));have H0:=Lib.hid G2;clear hr hx hx' hbel G0 G1 G2;go_wp2_with (go_at_call 131;with_reducible refine H0.out.mono ?_;rintro e w' ⟨rfl,rfl⟩);go_roundw
   case rel=>exact ⟨3,by omega,by go_num,HR.out,HX.out,HE.out⟩
   case measure=>(simp [intOf]<;>omega)
  ·rw [show ((3:Nat):Int)=3 from rfl];have hx':Blk wr (w.heap.size+1) #[.int .u64 x0,.int .u64 x1,.int .u64 x2] 184:=hx;obtain ⟨c0,c1,c2⟩:=hx'.c3;obtain ⟨q0,q1,q2⟩:=hr.c3;obtain ⟨f0,f1,f2⟩:=hr.f3;have HE:=Lib.hid hbel;clear hr hx hx' hbel G0 G1 G2;go_wp2;refine bodyPost_ret (v:=.agg #[.int .u64 x0,.int .u64 x1,.int .u64 x2]) (by simp [results,Tryz.results146,go_sem,q0,q1,q2]) rfl ⟨rfl,?_⟩;exact ((HE.out.setCell (Nat.le_refl _) _).setCell (Nat.le_refl _) _).setCell (Nat.le_refl _) _
theorem info_or {ty sy:Int} (t0:0≤ty) (t1:ty≤4294967295) (s0:0≤sy) (s1:sy≤4294967295):bits .or .u64 (sy*4294967296) ty=ty+sy*4294967296:=by
 obtain ⟨ty,rfl⟩:=Int.eq_ofNat_of_zero_le t0;obtain ⟨sy,rfl⟩:=Int.eq_ofNat_of_zero_le s0;have e:((sy:Int)*4294967296)=((sy*4294967296:Nat):Int):=by omega
 rw [e,u64_or_nat _ _ (by omega) (by omega),nat_join 32 (sy*4294967296) ty (Nat.mul_mod_left _ _) (by omega)];omega
theorem lwords_ok (s:Rl) (w:World) (h:s.Ok) :
 Calls Tryz.prog 130 #[s.val] w fun r w'=>r=.returned (.agg #[.int .u64 s.of,.int .u64 (infoL s),.int .u64 (IntKind.u64.wrap s.ad)])∧Below w.heap.size w w':=by
 obtain ⟨⟨a0,a1⟩,⟨b0,b1⟩,⟨c0,c1⟩,⟨d0,d1⟩⟩:=h;obtain ⟨of,ty,sy,ad⟩:=s;unfold Rl.val infoL;simp only at *;have HBL2:Hid (∀o o',Below w.heap.size w ((w.alloc o).alloc o')):=Lib.hid (fun o o'=>((Below.refl _ _).alloc (Nat.le_refl _) o).alloc (by simp) o');have HOR:=Lib.hid (info_or b0 b1 c0 c1);go_enter Tryz.func130,Tryz.ntmps130
 go_wp2;refine bodyPost_ret (v:=.agg #[.int .u64 of,.int .u64 (ty+sy*4294967296),.int .u64 (IntKind.u64.wrap ad)]) (by simp [results,Tryz.results130,go_sem];exact HOR.out) rfl ⟨rfl,?_⟩;exact HBL2.out _ _
theorem lentry_ok (x0 x1 x2:Int) (w:World) (a0:0≤x0) (a1:x0≤18446744073709551615) (b0:0≤x1) (b1:x1≤18446744073709551615) (c0:0≤x2) (c1:x2≤18446744073709551615) :
 Calls Tryz.prog 145 #[.agg #[.int .u64 x0,.int .u64 x1,.int .u64 x2]] w fun r w'=>r=.returned (Rl.val ⟨x0,x1 % 4294967296,x1 / 4294967296,IntKind.i64.wrap x2⟩)∧Below w.heap.size w w':=by
 have HBL2:Hid (∀o o',Below w.heap.size w ((w.alloc o).alloc o')):=Lib.hid (fun o o'=>((Below.refl _ _).alloc (Nat.le_refl _) o).alloc (by simp) o');unfold Rl.val;simp only
 go_enter Tryz.func145,Tryz.ntmps145
 go_wp2;refine bodyPost_ret (v:=.agg #[.int .u64 x0,.int .u32 (x1 % 4294967296),.int .u32 (x1 / 4294967296),.int .i64 (IntKind.i64.wrap x2)]) (by simp [results,Tryz.results145,go_sem];exact (IntWalk.i64_left _).symm) rfl ⟨rfl,?_⟩;exact HBL2.out _ _
theorem k7_setB_fill {A:List Int} {m p k:Nat} (x:Int) (hp:A.length=p):setB (A++List.replicate m 0) p x k=(A++digs x k)++List.replicate (m-k) 0:=by
 subst hp;unfold setB;rw [List.take_left,List.drop_append];rw [List.drop_eq_nil_of_le (by omega),List.nil_append,Nat.add_sub_cancel_left,List.drop_replicate,List.append_assoc]
theorem digs_more {A:List Int} (x:Int) (k:Nat) (h:∀n∈A,0≤n∧n≤255):∀n∈A++digs x k,0≤n∧n≤255:=by
 intro n hn;rcases List.mem_append.1 hn with h1 | h1
 ·exact h n h1
 ·exact digs_bd x k n h1
theorem noughts_more {A:List Int} (m:Nat) (h:∀n∈A,0≤n∧n≤255):∀n∈A++List.replicate m 0,0≤n∧n≤255:=by
 intro n hn;rcases List.mem_append.1 hn with h1 | h1
 ·exact h n h1
 ·rw [List.eq_of_mem_replicate h1];decide
theorem lset_next (base:Nat) (g:Nat) (A:List Int) (x:Int) (w:World) (p:Nat) (hp:A.length=p) (hA:∀n∈A,0≤n∧n≤255) (ho:w.ownsRow base 5 1 (.slice (some ⟨g,0,none⟩) 24 24) 24 ((A++List.replicate (24-p) 0).map (Value.int .u8))) (hb:base≤w.heap.size) (hs:p+8≤24) (x0:0≤x) (x1:x≤18446744073709551615) :
 Calls Tryz.prog 129 #[.slice (some ⟨g,0,none⟩) 24 24,.int .u64 p,.int .i64 8,.int .u64 x] w fun r w'=>(∃g',r=.returned (.tuple #[.slice (some ⟨g',0,none⟩) 24 24,.int .i64 0])∧w'.ownsRow base 5 1 (.slice (some ⟨g',0,none⟩) 24 24) 24 (((A++digs x 8)++List.replicate (24-(p+8)) 0).map (Value.int .u8)))∧Below base w w':=by
 have h:=set_ok w.heap.size (some ⟨g,0,none⟩) 24 24 _ p 8 x w (Bys.own (noughts_more _ hA) ho) (Nat.le_refl _) (by decide) (by decide) hs x0 x1;rw [k7_setB_fill x hp] at h;refine h.mono ?_;rintro r w' ⟨rfl,hown,hbel⟩;refine ⟨⟨_,rfl,?_⟩,hbel.mono hb⟩;rw [Nat.sub_sub] at hown;exact own_base hown hb
def putAt (s:Rl):Nat→List Int
 | 0=>[]
 | 1=>digs s.of 8
 | 2=>digs s.of 8++digs (infoL s) 8
 | _=>digs s.of 8++digs (infoL s) 8++digs (IntKind.u64.wrap s.ad) 8
theorem putAt_len (s:Rl):∀k,k≤3→(putAt s k).length=8*k
 | 0,_=>rfl
 | 1,_=>by simp [putAt,digs_len]
 | 2,_=>by simp [putAt,digs_len]
 | 3,_=>by simp [putAt,digs_len]
theorem putAt_bd (s:Rl):∀k,k≤3→∀n∈putAt s k,0≤n∧n≤255
 | 0,_=>fun n h=>by cases h
 | 1,_=>digs_bd _ _
 | 2,_=>digs_more _ _ (digs_bd _ _)
 | 3,_=>digs_more _ _ (digs_more _ _ (digs_bd _ _))
theorem lput_ok (s:Rl) (w:World) (h:s.Ok) :
 Calls Tryz.prog 79 #[s.val] w fun r w'=>(∃u,r=.returned u∧k7_Made (encL s) u w')∧Below w.heap.size w w':=by
 obtain ⟨i0,hi,hz0,hz1,hz2⟩:=info_parts info_u8;have HI:=Lib.hid hi;have HZ0:=Lib.hid hz0;have HZ1:=Lib.hid hz1;have HZ2:=Lib.hid hz2;have HE:Hid (putAt s 3=encL s):=Lib.hid (by simp [putAt,encL]);have HEB:=Lib.hid (encL_bd s);have HEL:=Lib.hid (encL_len s);have HL:=Lib.hid (putAt_len s);have HD:=Lib.hid (putAt_bd s);have i0':0≤infoL s:=by unfold infoL;have:=h.ty;have:=h.sy;omega
 have i1':infoL s≤18446744073709551615:=by unfold infoL;have:=h.ty;have:=h.sy;omega
 have u0:0≤IntKind.u64.wrap s.ad:=by rw [IntKind.wrap_u64];omega
 have u1:IntKind.u64.wrap s.ad≤18446744073709551615:=by rw [IntKind.wrap_u64];omega
 have HW:=Lib.hid (fun w1=>lwords_ok s w1 h);have HP0:Hid (putAt s 0=[]):=Lib.hid rfl;have H1:Hid (putAt s 1=putAt s 0++digs s.of 8):=Lib.hid rfl;have H2:Hid (putAt s 2=putAt s 1++digs (infoL s) 8):=Lib.hid rfl;have H3:Hid (putAt s 3=putAt s 2++digs (IntKind.u64.wrap s.ad) 8):=Lib.hid rfl;obtain ⟨o0,o1⟩:=h.of;generalize hP:putAt s=P at *;generalize encL s=zs at *;generalize infoL s=y at *;generalize IntKind.u64.wrap s.ad=z at *;clear h hi hz0 hz1 hz2 hP;obtain ⟨of,ty,sy,ad⟩:=s;unfold Rl.val at *;simp only at *;go_enter Tryz.func79,Tryz.ntmps79
 go_wp2_with (at_make;refine wpList_make_full _ rfl _ _ 22 rfl (w.heap.size+1) 5 i0 (.int .u8 0) 1 Tryz.underlying22 HI.out HZ0.out HZ1.out .i64 .i64 _ _ 24 rfl rfl rfl rfl ?c1 ?c2 ?c3 ?_);case c1=>rw [HZ2.out];omega
 case c2=>unfold maxLen;omega
 case c3=>simp
 intro w1 hown hg;have hb1:Below w.heap.size w w1:=((Below.refl _ _).alloc (Nat.le_refl _) _).grown hg (by simp) (fun _ e=>by cases e);have hbx:=(Blk.new w #[.int .u64 of,.int .u32 ty,.int .u32 sy,.int .i64 ad] 78).grown hg (by simp);obtain ⟨q0,q1,q2,q3⟩:=Rl.cs hbx;have hgb:w.heap.size≤w1.heap.size:=hb1.size;have HO0:Hid (∃g,(Value.slice (some ⟨w.heap.size+1,0,none⟩) 24 24)=.slice (some ⟨g,0,none⟩) 24 24∧w1.ownsRow w.heap.size 5 1 (.slice (some ⟨g,0,none⟩) 24 24) 24 ((P 0++List.replicate (24-8*0) 0).map (Value.int .u8))):=Lib.hid (by
  rw [toList_madeCells_one] at hown;have e:(P 0++List.replicate (24-8*0) (0:Int)).map (Value.int .u8)=List.replicate 24 (.int .u8 0):=by rw [HP0.out];simp
  rw [e];exact ⟨_,rfl,own_base hown (Nat.le_succ _)⟩)
 have HB1:=Lib.hid hb1;clear hown hg hb1 hbx;go_wp2_with fail;refine (HW.out _).mono ?_;rintro r w2 ⟨rfl,hb2⟩;have HB2:=Lib.hid (HB1.out.trans (hb2.mono hgb));have HO2:Hid (∃g,(Value.slice (some ⟨w.heap.size+1,0,none⟩) 24 24)=.slice (some ⟨g,0,none⟩) 24 24∧w2.ownsRow w.heap.size 5 1 (.slice (some ⟨g,0,none⟩) 24 24) 24 ((P 0++List.replicate (24-8*0) 0).map (Value.int .u8))):=Lib.hid (by
  obtain ⟨g,e,h⟩:=HO0.out;exact ⟨g,e,own_below h hb2⟩)
 clear hb2 q0 q1 q2 q3 HO0;have ia0:∀w,(Instr.index 184 (.agg #[.int .u64 of,.int .u64 y,.int .u64 z]) (.int .i64 0)).run Tryz.prog w=.ok (.int .u64 of) w:=fun _=>by kernel_rfl
 have ia1:∀w,(Instr.index 184 (.agg #[.int .u64 of,.int .u64 y,.int .u64 z]) (.int .i64 1)).run Tryz.prog w=.ok (.int .u64 y) w:=fun _=>by kernel_rfl
 have ia2:∀w,(Instr.index 184 (.agg #[.int .u64 of,.int .u64 y,.int .u64 z]) (.int .i64 2)).run Tryz.prog w=.ok (.int .u64 z) w:=fun _=>by kernel_rfl
 go_wp2;go_loopw [3,4,5,9] (fun b _ _ i wr=>∃k g:Nat,k≤3∧i=.int .i64 k∧b=.slice (some ⟨g,0,none⟩) 24 24∧wr.ownsRow w.heap.size 5 1 (.slice (some ⟨g,0,none⟩) 24 24) 24 ((P k++List.replicate (24-8*k) 0).map (Value.int .u8))∧Below w.heap.size w wr) (fun _ _ _ i _=>3-(intOf i).toNat)
 case atStart=>
  obtain ⟨g,e,h⟩:=HO2.out;exact ⟨0,g,Nat.zero_le _,rfl,e,h,HB2.out⟩
 case round=>
  obtain ⟨k,g,hk,rfl,rfl,hown,hbel⟩:=hrel;have hor:k=0∨k=1∨k=2∨k=3:=by omega
  rcases hor with rfl | rfl | rfl | rfl
  ·have HS:=Lib.hid (lset_next w.heap.size g (P 0) of wr 0 (HL.out 0 (by decide)) (HD.out 0 (by decide)) hown hbel.size (by decide) o0 o1);rw [show ((0:Nat):Int)=0 from rfl];have HBE:=Lib.hid hbel;clear hown hbel;go_wp2_with (go_at_call 129;refine HS.out.mono ?_;rintro r w3 ⟨⟨g',rfl,ho⟩,hb3⟩);have HO3:=Lib.hid ho;have HB3:=Lib.hid (HBE.out.trans hb3);clear ho hb3;go_wp2;go_roundw
   case rel=>exact ⟨1,g',by omega,by go_num,rfl,by rw [H1.out];exact HO3.out,HB3.out⟩
   case measure=>(simp [intOf]<;>omega)
  ·have HS:=Lib.hid (lset_next w.heap.size g (P 1) y wr 8 (HL.out 1 (by decide)) (HD.out 1 (by decide)) hown hbel.size (by decide) i0' i1');rw [show ((1:Nat):Int)=1 from rfl];have HBE:=Lib.hid hbel;clear hown hbel;go_wp2_with (go_at_call 129;refine HS.out.mono ?_;rintro r w3 ⟨⟨g',rfl,ho⟩,hb3⟩);have HO3:=Lib.hid ho;have HB3:=Lib.hid (HBE.out.trans hb3);clear ho hb3;go_wp2;go_roundw
   case rel=>exact ⟨2,g',by omega,by go_num,rfl,by rw [H2.out];exact HO3.out,HB3.out⟩
   case measure=>(simp [intOf]<;>omega)
  ·have HS:=Lib.hid (lset_next w.heap.size g (P 2) z wr 16 (HL.out 2 (by decide)) (HD.out 2 (by decide)) hown hbel.size (by decide) u0 u1);rw [show ((2:Nat):Int)=2 from rfl];have HBE:=Lib.hid hbel;clear hown hbel;go_wp2_with (go_at_call 129;refine HS.out.mono ?_;rintro r w3 ⟨⟨g',rfl,ho⟩,hb3⟩);have HO3:=Lib.hid ho;have HB3:=Lib.hid (HBE.out.trans hb3);clear ho hb3;go_wp2;go_roundw
   case rel=>exact ⟨3,g',by omega,by go_num,rfl,by rw [H3.out];exact HO3.out,HB3.out⟩
   case measure=>(simp [intOf]<;>omega)
  ·rw [show ((3:Nat):Int)=3 from rfl];have HO3:=Lib.hid hown;have HBE:=Lib.hid hbel;clear hown hbel;go_wp2;go_ret;refine ⟨⟨_,rfl,?_⟩,HBE.out⟩;have h:=HO3.out;rw [HE.out] at h;have e:(zs++List.replicate (24-8*3) (0:Int))=zs:=by simp
   rw [e,←HEL.out] at h;exact k7_own_made (by rw [HEL.out] at h⊢;exact h) (by rw [HEL.out];decide) HEB.out
def slenL:Value→Nat
 | .slice _ m _=>m
 | _=>0
theorem ltable_any (B:Nat) (a:Option Addr) (len cap:Nat) (zs:List Int) (w:World) (hb:Bys w B a len zs) (hB:B≤w.heap.size) (hl:len≤140737488355328) (hcap:len≤cap) (hcm:(cap:Int)≤9223372036854775807) :
 Calls Tryz.prog 105 #[.slice a len cap] w fun r w'=>(∃u,r=.returned (.tuple #[u,.int .i64 (tabL zs).1])∧w'.ownsRow w.heap.size 78 4 u (tabL zs).2.length (Rl.flat (tabL zs).2))∧Below w.heap.size w w':=by
 obtain ⟨i0,hi,hz0,hz1,hz2⟩:=info_parts info_rel;have HI:=Lib.hid hi;have HZ0:=Lib.hid hz0;have HZ1:=Lib.hid hz1;have HZ2:=Lib.hid hz2;have HZB:=Lib.hid hb.2.1;have HZL:=Lib.hid hb.1;have HBY:=Lib.hid hb;have hli:(len:Int)≤140737488355328:=by omega
 obtain ⟨g0,off,HA⟩:∃g0 off,Hid (0<len→a=some ⟨g0,off,none⟩∧g0<B):=by
  by_cases h0:0<len
  ·obtain ⟨b,off,e,h1,_⟩:=hb.2.2 h0;exact ⟨b,off,Lib.hid (fun _=>⟨e,h1⟩)⟩
  ·exact ⟨0,0,Lib.hid (fun h=>absurd h h0)⟩
 clear hi hz0 hz1 hz2;by_cases hm:len % 24=0
 ·have HR:Hid (tabL zs=(0,k7_tabR zs (len / 24))):=Lib.hid (by unfold tabL;rw [HZL.out,if_pos hm]);rw [HR.out];have hmi:(len:Int) % 24=0:=by omega
  have HTL:=Lib.hid (tabR_len zs (len / 24));obtain ⟨n,hn⟩:∃n,len / 24=n:=⟨_,rfl⟩
  have hni:(len:Int) / 24=(n:Int):=by omega
  rw [hn] at HTL HR⊢;have hln1:len≤24*n:=by omega
  have hln2:24*n≤len:=by omega
  clear hb hn hm;go_enter Tryz.func105,Tryz.ntmps105
  go_wp2_with (at_make;refine wpList_make_own _ rfl _ _ 30 rfl w.heap.size 78 i0 _ 4 Tryz.underlying30 HI.out HZ0.out HZ1.out .i64 .i64 _ n rfl rfl rfl ?c1 ?c2 ?c3 ?_);case c1=>rw [HZ2.out];omega
  case c2=>unfold maxLen;omega
  case c3=>exact Nat.le_refl _
  intro w1 hown1 hg1;have hbw1:Below w.heap.size w w1:=(Below.refl _ _).grown hg1 (Nat.le_refl _) (fun _ e=>by cases e);have HO1:=Lib.hid hown1;have HB1:=Lib.hid hbw1;clear hown1 hg1 hbw1;go_wp2;go_loopw [0,4] (fun b v wr=>∃(k m cp:Nat) (ad:Option Addr),b=.slice ad m cp∧24*k+m=len∧24*k+cp=cap∧(0<m→ad=some ⟨g0,off+24*k,none⟩)∧wr.ownsRow w.heap.size 78 4 v k (Rl.flat (k7_tabR zs k))∧Below w.heap.size w wr) (fun b _ _=>slenL b)
  case atStart=>exact ⟨0,len,cap,a,rfl,by omega,by omega,fun h=>(HA.out h).1,HO1.out,HB1.out⟩
  case round=>
   obtain ⟨k,m,cp,ad,rfl,hm,hcp,had,hown,hbel⟩:=hrel;have hbs:=hbel.size;have HOW:=Lib.hid hown;have HBE:=Lib.hid hbel;by_cases hlt:0<m
   ·obtain rfl:=had hlt;have hmm:24≤m:=by omega
    have hmi2:(0:Int)<m:=by omega
    have hmi3:(24:Int)≤m:=by omega
    have hcpi:(m:Int)≤cp:=by omega
    have hcpm:(cp:Int)≤9223372036854775807:=by omega
    have hrd:24*k+24≤zs.length:=by have:=HZL.out;omega
    have HBYW:Hid (Bys wr B (some ⟨g0,off+24*k,none⟩) m (piece zs (24*k) m)):=Lib.hid (by
     have h:=HBY.out.below (hbel.mono hB);rw [(HA.out (by omega)).1] at h;exact h.sub (by omega))
    obtain ⟨x0,hx0⟩:∃x,num (piece zs (24*k) 8)=x:=⟨_,rfl⟩
    obtain ⟨x1,hx1⟩:∃x,num (piece zs (24*k+8) 8)=x:=⟨_,rfl⟩
    obtain ⟨x2,hx2⟩:∃x,num (piece zs (24*k+16) 8)=x:=⟨_,rfl⟩
    have HRD:Hid (Calls Tryz.prog 146 #[.slice (some ⟨g0,off+24*k,none⟩) m cp] wr fun r w'=>r=.returned (.agg #[.int .u64 x0,.int .u64 x1,.int .u64 x2])∧Below wr.heap.size wr w'):=Lib.hid (by
     have h:=lread_ok B _ m cp _ wr HBYW.out (Nat.le_trans hB hbs) (by omega) hmm;rw [k7_piece_piece (by omega),k7_piece_piece (by omega),k7_piece_piece (by omega),Nat.add_zero,hx0,hx1,hx2] at h;exact h)
    have HTS:Hid (k7_tabR zs (k+1)=k7_tabR zs k++[⟨x0,x1 % 4294967296,x1 / 4294967296,IntKind.i64.wrap x2⟩]):=Lib.hid (by
     rw [tabR_succ,←hx0,←hx1,←hx2];rfl)
    have hbd:∀{p:Nat},p+8≤zs.length→0≤num (piece zs p 8)∧num (piece zs p 8)≤18446744073709551615:=fun {p} hp=>by
     have:=num_piece_lt (p:=p) (k:=8) HZB.out hp;omega
    obtain ⟨p0,p1⟩:=hbd (p:=24*k) (by omega);obtain ⟨p2,p3⟩:=hbd (p:=24*k+8) (by omega);obtain ⟨p4,p5⟩:=hbd (p:=24*k+16) (by omega);rw [hx0] at p0 p1;rw [hx1] at p2 p3;rw [hx2] at p4 p5;have HEN:=Lib.hid (fun w1=>lentry_ok x0 x1 x2 w1 p0 p1 p2 p3 p4 p5);unfold Rl.val at HEN;simp only at HEN;have HOC:=Lib.hid (k7_one_cells ⟨x0,x1 % 4294967296,x1 / 4294967296,IntKind.i64.wrap x2⟩);generalize IntKind.i64.wrap x2=ad at HEN HOC HTS;generalize x1 % 4294967296=ty at HEN HOC HTS;generalize x1 / 4294967296=sy at HEN HOC HTS;have hkn:(k:Int)≤140737488355328:=by omega
    clear hown hbel hx0 hx1 hx2 p0 p1 p2 p3 p4 p5 hbd HBYW hrd;go_wp2_with fail;refine HRD.out.mono ?_;rintro r w2 ⟨rfl,hb2⟩;have hsz2:=hb2.size;have HB2:=Lib.hid (HBE.out.trans (hb2.mono hbs));have HO2:=Lib.hid (Rl.own_below HOW.out hb2);clear hb2;go_wp2_with fail;refine (HEN.out _).mono ?_;rintro r w3 ⟨rfl,hb3⟩;have HO3:=Lib.hid (Rl.own_below HO2.out hb3);have HB3:=Lib.hid (HB2.out.trans (hb3.mono HB2.out.size));clear hb3;go_wp2_with (at_builtin;refine wpList_append_own _ rfl _ _ 30 rfl w.heap.size 78 i0 _ 4 24 Tryz.underlying30 HI.out HZ0.out HZ1.out HZ2.out rfl (by decide) _ k _ rfl (HO3.out.alloc _) ⟨w3.heap.size,0,none⟩ 1 1 [.int .u64 x0,.int .u32 ty,.int .u32 sy,.int .i64 ad] rfl rfl ?d1 ?d2 ?d3 ?d4 ?d5 ?_);case d1=>exact k7_cells_new w3 [.int .u64 x0,.int .u32 ty,.int .u32 sy,.int .i64 ad] _ _ rfl
    case d2=>exact HOC.out
    case d3=>unfold maxLen;omega
    case d4=>omega
    case d5=>have:=HB3.out.size;simp;omega
    intro v4 w4 hown4 hg4 _;have HO4:Hid (w4.ownsRow w.heap.size 78 4 v4 (k+1) (Rl.flat (k7_tabR zs (k+1)))):=Lib.hid (by rw [HTS.out,Rl.flat_snoc];exact hown4);have hb4:Below w.heap.size w w4:=(HB3.out.alloc HB3.out.size _).grown hg4 (by have:=HB3.out.size;simp;omega) (fun q e=>(HO3.out.lt q e).1);clear hown4 hg4;go_wp2;go_roundw
    case rel=>exact ⟨k+1,m-24,cp-24,_,rfl,by omega,by omega,fun h=>by rw [if_neg (by omega),show off+24*k+24=off+24*(k+1) by omega],HO4.out,hb4⟩
    case measure=>(simp [slenL]<;>omega)
   ·obtain rfl:m=0:=by omega
    have hkn:k=n:=by omega
    have HO2:Hid (wr.ownsRow w.heap.size 78 4 _ (k7_tabR zs n).length (Rl.flat (k7_tabR zs n))):=Lib.hid (by rw [HTL.out,←hkn];exact hown);clear hown hbel hkn;go_wp2;go_ret2;exact ⟨⟨_,rfl,HO2.out⟩,HBE.out⟩
 ·have HR:Hid (tabL zs=(10,[])):=Lib.hid (by unfold tabL;rw [HZL.out,if_neg hm]);rw [HR.out];have hmb:((len:Int) % 24 != 0)=true:=by
   rw [bne_iff_ne];omega
  clear hb hm;go_enter Tryz.func105,Tryz.ntmps105
  go_wp2;go_ret2;exact ⟨⟨_,rfl,World.ownsRow_nil _ _ _ _⟩,Below.refl _ _⟩
end Go.Proofs.YtclgbdfkdbbinaaGreat
