/-
  What is proved here: words and contracts, a part of those that the statement rests on (C18).
  Conditions: none but that the arguments are values of their types.
-/
import Derived.Test.YtclgbdfkdbbinaaGreatC17
import Derived.Test.YtclgbdfkdbbinaaGreatC4
import Derived.Test.YtclgbdfkdbbinaaGreatC2
import Derived.Test.YtclgbdfkdbbinaaGreatC7
import Derived.Test.YtclgbdfkdbbinaaGreatC5
import Derived.Test.YtclgbdfkdbbinaaGreatC11
import Derived.Test.YtclgbdfkdbbinaaGreatC6
import Derived.Test.YtclgbdfkdbbinaaGreatC3
import Derived.Test.YtclgbdfkdbbinaaGreatC8
import Derived.Deep.Cut
import Derived.Deep.CutBlock
import Derived.Deep.DeepCutAuto
set_option linter.unusedVariables false
set_option linter.unusedSimpArgs false
set_option maxRecDepth 100000
set_option maxHeartbeats 12800000
namespace Go.Proofs.YtclgbdfkdbbinaaGreat
open Go.RowKit
theorem pb_parse_ok {zs:List Int} (h:(parseI zs).1=0):(k4_tabR zs (sOf zs) (cOf zs)).1=0∧parseI zs=imaI zs (kOf zs) (eOf zs) (sOf zs) (cOf zs) (k4_tabR zs (sOf zs) (cOf zs)).2:=by
 unfold parseI at h⊢;by_cases h1:65536<zs.length
 ·rw [if_pos h1] at h;cases h
 rw [if_neg h1] at h⊢;by_cases h2:zs.length<64
 ·rw [if_pos h2] at h;cases h
 rw [if_neg h2] at h⊢;by_cases h3:isHead zs=false
 ·rw [if_pos h3] at h;cases h
 rw [if_neg h3] at h⊢;by_cases h4:kOf zs=4
 ·rw [if_pos h4] at h;cases h
 rw [if_neg h4] at h⊢;by_cases h5:(k4_tabR zs (sOf zs) (cOf zs)).1≠0
 ·rw [if_pos h5] at h;exact absurd h h5
 rw [if_neg h5] at h⊢;by_cases h6:checkS (k4_tabR zs (sOf zs) (cOf zs)).2 zs.length≠0
 ·rw [if_pos h6] at h;exact absurd h h6
 rw [if_neg h6] at h⊢;by_cases h7:(k4_tabR zs (sOf zs) (cOf zs)).2.find? (kindB 1)=none
 ·rw [if_pos h7] at h;cases h
 rw [if_neg h7];exact ⟨by omega,rfl⟩
theorem pb_ima_ok {zs:List Int} {k e s c:Int} {L:List Sg} {d:Sg} (hd:L.find? (kindB 2)=some d) (h:(imaI zs k e s c L).1=0) :
 (namedI L zs d).1=0∧(imaI zs k e s c L).2=⟨k,e,s,c,L,(namedI L zs d).2.so,(namedI L zs d).2.nd,(namedI L zs d).2.nm,(namedI L zs d).2.sy,(namedI L zs d).2.rl,zs⟩:=by
 unfold imaI at h⊢;rw [hd] at h⊢;simp only at h⊢;by_cases h1:(namedI L zs d).1≠0
 ·rw [if_pos h1] at h;exact absurd h h1
 rw [if_neg h1] at h⊢;by_cases h2:heldI L (namedI L zs d).2.sy (namedI L zs d).2.rl≠0
 ·rw [if_pos h2] at h;exact absurd h h2
 rw [if_neg h2];exact ⟨by omega,rfl⟩
theorem pb_named_ok {L:List Sg} {zs:List Int} {s:Sg} (h:(namedI L zs s).1=0):namedI L zs s=entsI L zs (getDy (cutI zs s.ot s.fi).2).2.v (getDy (cutI zs s.ot s.fi).2).2.nd:=by
 unfold namedI at h⊢;by_cases h1:(getDy (cutI zs s.ot s.fi).2).1≠0
 ·rw [if_pos h1] at h;exact absurd h h1
 rw [if_neg h1]
theorem pb_ents_ok {L:List Sg} {zs V N:List Int} (h:(entsI L zs V N).1=0):entsI L zs V N=sonI L zs V N (bytesI L zs (V.getD 1 0) (V.getD 2 0)).2:=by
 unfold entsI at h⊢;by_cases h1:(bytesI L zs (V.getD 1 0) (V.getD 2 0)).1≠0
 ·rw [if_pos h1] at h;exact absurd h h1
 rw [if_neg h1] at h⊢;by_cases h2:chk (bytesI L zs (V.getD 1 0) (V.getD 2 0)).2≠0
 ·rw [if_pos h2] at h;cases h
 rw [if_neg h2]
theorem pb_son_ok {L:List Sg} {zs V N t:List Int} {so:ByteArray} (ha:atN t (V.getD 0 0)=(0,so)) (hz:V.getD 0 0=0→so=.empty):sonI L zs V N t=needsI L zs V N t so:=by
 unfold sonI;by_cases h1:V.getD 0 0=0
 ·rw [if_pos h1,hz h1]
 rw [if_neg h1,ha,if_neg (by simp)]
theorem pb_needs_ok {L:List Sg} {zs V N t:List Int} {so:ByteArray} (h:(needsI L zs V N t so).1=0):(needI t N).1=0∧needsI L zs V N t so=symsI L zs V t so (needI t N).2:=by
 unfold needsI at h⊢;by_cases h1:(needI t N).1≠0
 ·rw [if_pos h1] at h;exact absurd h h1
 rw [if_neg h1];exact ⟨by omega,rfl⟩
theorem pb_rela_ok {L:List Sg} {zs V:List Int} {so:ByteArray} {nd nm:List ByteArray} {sy:List Sy} (h:(relaI L zs V so nd nm sy).1=0):(relaI L zs V so nd nm sy).2.so=so∧(relaI L zs V so nd nm sy).2.nd=nd∧(relaI L zs V so nd nm sy).2.nm=nm:=by
 unfold relaI at h⊢;by_cases h1:65536<V.getD 6 0
 ·rw [if_pos h1] at h;cases h
 rw [if_neg h1] at h⊢;by_cases h2:V.getD 6 0≤0
 ·rw [if_pos h2];exact ⟨rfl,rfl,rfl⟩
 rw [if_neg h2] at h⊢;by_cases h3:(bytesI L zs (V.getD 5 0) (V.getD 6 0)).1≠0
 ·rw [if_pos h3] at h;exact absurd h h3
 rw [if_neg h3] at h⊢;by_cases h4:(tabL (bytesI L zs (V.getD 5 0) (V.getD 6 0)).2).1≠0
 ·rw [if_pos h4] at h;exact absurd h h4
 rw [if_neg h4];exact ⟨rfl,rfl,rfl⟩
theorem pb_syms_ok {L:List Sg} {zs V t:List Int} {so:ByteArray} {nd:List ByteArray} (h:(symsI L zs V t so nd).1=0) :
 (symsI L zs V t so nd).2.so=so∧(symsI L zs V t so nd).2.nd=nd∧(0<V.getD 4 0→(namesI t (tabY (bytesI L zs (V.getD 3 0) (24*V.getD 4 0)).2).2).1=0∧(symsI L zs V t so nd).2.nm=(namesI t (tabY (bytesI L zs (V.getD 3 0) (24*V.getD 4 0)).2).2).2):=by
 unfold symsI at h⊢;by_cases h1:1024<V.getD 4 0
 ·rw [if_pos h1] at h;cases h
 rw [if_neg h1] at h⊢;by_cases h2:V.getD 4 0≤0
 ·rw [if_pos h2] at h⊢;obtain ⟨a,b,_⟩:=pb_rela_ok h;exact ⟨a,b,fun h9=>by omega⟩
 rw [if_neg h2] at h⊢;by_cases h3:(bytesI L zs (V.getD 3 0) (24*V.getD 4 0)).1≠0
 ·rw [if_pos h3] at h;exact absurd h h3
 rw [if_neg h3] at h⊢;by_cases h4:checkY (tabY (bytesI L zs (V.getD 3 0) (24*V.getD 4 0)).2).2≠0
 ·rw [if_pos h4] at h;cases h
 rw [if_neg h4] at h⊢;by_cases h5:(namesI t (tabY (bytesI L zs (V.getD 3 0) (24*V.getD 4 0)).2).2).1≠0
 ·rw [if_pos h5] at h;exact absurd h h5
 rw [if_neg h5] at h⊢;obtain ⟨a,b,c⟩:=pb_rela_ok h;exact ⟨a,b,fun _=>⟨by omega,c⟩⟩
theorem tabR_back' {zs more:List Int} {L:List Sg} (hok:∀s∈L,s.Ok) (hl:L.length≤64):k4_tabR (zs++(k4_flatE L++more)) zs.length L.length=(0,L):=by
 obtain ⟨h1,h2⟩:=flatE_tab hok;have hp:piece (zs++(k4_flatE L++more)) zs.length (56*L.length)=k4_flatE L:=piece_at (A:=zs) (B:=k4_flatE L) (C:=more) rfl (k4_flatE_len L);unfold k4_tabR;rw [if_neg (by omega),if_neg (by rw [List.length_append,List.length_append,k4_flatE_len];omega)];simp only [Int.toNat_natCast,hp,h1,h2,if_true]
theorem file_pre (m:Sp):∃R,fileB m=symsP m++R:=by
 have h1:∃R,relsP m=symsP m++R:=⟨_,rfl⟩
 have h2:∃R,codeP m=symsP m++R:=by
  obtain ⟨R,hR⟩:=h1;unfold codeP padB;split
  ·exact ⟨_,by rw [hR,List.append_assoc,List.append_assoc]⟩
  ·exact ⟨R,hR⟩
 have h3:∃R,dataP m=symsP m++R:=by
  obtain ⟨R,hR⟩:=h2;unfold dataP padB;split
  ·exact ⟨_,by rw [hR,List.append_assoc,List.append_assoc]⟩
  ·exact ⟨R,hR⟩
 obtain ⟨R,hR⟩:=h3;unfold fileB;split
 ·exact ⟨_,by rw [hR,List.append_assoc]⟩
 ·exact ⟨R,hR⟩
theorem file_front (m:Sp):∃R,fileB m=enc m.k (entryB m) 64 (countB m)++(k4_flatE (segsB m)++(putBy (needO m) (vB m)++(tabB m++R))):=by
 obtain ⟨R,hR⟩:=file_pre m;refine ⟨List.replicate (padN (frontB m++tabB m).length 8) 0++(((if 0<m.df.length then List.replicate 24 0 else [])++(symsB m m.df.length).flatMap encY)++R),?_⟩;rw [hR];unfold symsP headB padB frontB k4_flatE;simp only [List.append_assoc]
theorem piece_front {A B C:List Int} {p n:Int} (hp:(A.length:Int)=p) (hn:(B.length:Int)=n):piece (A++(B++C)) p.toNat n.toNat=B:=piece_at (by omega) (by omega)
theorem cut_front {A B C:List Int} {p n:Int} (hp:(A.length:Int)=p) (hn:(B.length:Int)=n):cutI (A++(B++C)) p n=(0,B):=by
 unfold cutI;rw [if_neg (by simp only [List.length_append];omega),piece_front hp hn]
theorem seg0_at (m:Sp):∃R,segsB m=⟨1,4,0,0,endB m,endB m,256⟩ :: R:=⟨_,rfl⟩
theorem place_front {m:Sp} {a n:Int} (h0:0≤a) (h1:0<n) (h2:a+n≤endB m) (h3:endB m≤150000):placeI (segsB m) a n=(0,a):=by
 obtain ⟨R,hR⟩:=seg0_at m;have hb:placeB a n ⟨1,4,0,0,endB m,endB m,256⟩=true:=by
  unfold placeB contB;simp only [beq_self_eq_true,Bool.true_and,Bool.and_eq_true,decide_eq_true_eq];omega
 unfold placeI;rw [if_neg (by omega),hR,List.find?_cons_of_pos hb];unfold placedS;simp only
 rw [show (0:Int)+(a-0)=a by omega,wrap_id h0 (by omega)]
theorem bytes_front {m:Sp} {A B C:List Int} {a n:Int} (hf:fileB m=A++(B++C)) (hp:(A.length:Int)=a) (hn:(B.length:Int)=n) (h1:0<n) (h2:a+n≤endB m) (h3:endB m≤150000):bytesI (segsB m) (fileB m) a n=(0,B):=by
 unfold bytesI;rw [place_front (by omega) h1 h2 h3];simp only [ne_eq,not_true_eq_false,if_false];rw [hf,cut_front hp hn]
theorem dyn_find {m:Sp}:(segsB m).find? (kindB 2)=some ⟨2,4,dynB m,dynB m,sizeB m,sizeB m,8⟩:=by
 unfold segsB;cases hasC m<;>cases hasD m<;>simp [kindB]
theorem firstZ_one {zs:List Int} {j k:Nat} (h:k2_FirstZ zs j) (g:k2_FirstZ zs k):j=k:=by
 obtain ⟨h1,h2,h3⟩:=h;obtain ⟨g1,g2,g3⟩:=g;rcases Nat.lt_trichotomy j k with e | e | e
 ·exact absurd h2 (g3 j e)
 ·exact e
 ·exact absurd g2 (h3 k e)
theorem fz_of {zs:List Int} {k:Nat} (h:k2_FirstZ zs k):fz zs=some k:=by
 cases hz:fz zs with
 | none=>exact absurd h.2.1 (fz_none hz k h.1)
 | some j=>rw [firstZ_one (fz_some hz) h]
theorem at_out {L:List ByteArray} (hc:Clean L) {i:Nat} (hi:i<L.length):atN (tab L L.length) ((outs L L.length).getD i 0)=(0,nm L i):=by
 have hs:=clean_seen (L:=L) hi;have hl:=pos_lt hs;have h1:=fz_of (tab_firstZ hs (hc i hi));have h2:=(tab_at hs).2.1;rw [outs_getD L hi];unfold atN;rw [if_neg (by omega)];simp only [Int.toNat_natCast];rw [h1];simp only
 rw [h2,strOfNums_bs]
theorem at_zero {L:List ByteArray} {k:Nat}:atN (tab L k) 0=(0,.empty):=by
 have hs:Seen L k .empty:=.inl rfl;have hl:=pos_lt hs;have hz:k2_NoZ (bs .empty):=fun i hi=>by rw [show (bs ByteArray.empty)=[] from rfl] at hi;cases hi
 have h1:=fz_of (tab_firstZ hs hz);have h2:=(tab_at hs).2.1;rw [pos_empty] at h1 h2 hl;unfold atN;rw [if_neg (by omega)];simp only [Int.toNat_zero];rw [h1];simp only
 rw [h2,strOfNums_bs]
theorem flatE_len' (L:List Sy):(k6_flatE L).length=24*L.length:=k6_flatE_len L
theorem need_all {t:List Int}:∀{N:List Int} {S:List ByteArray},S.length=N.length→(∀i,i<N.length→atN t (N.getD i 0)=(0,S.getD i .empty))→(needI t N).1=0→(needI t N).2=S
 | [],S,hl,_,_=>by
   cases S with
   | nil=>rfl
   | cons=>simp at hl
 | p :: ps,[],hl,_,_=>by simp at hl
 | p :: ps,s :: S,hl,ha,h=>by
   have h0:atN t p=(0,s):=ha 0 (by simp);unfold needI at h⊢;rw [h0] at h⊢;simp only [ne_eq,not_true_eq_false,if_false] at h⊢;by_cases e:s=.empty
   ·rw [if_pos e] at h;cases h
   rw [if_neg e] at h⊢;rw [need_all (N:=ps) (S:=S) (by simpa using hl) (fun i hi=>ha (i+1) (by simpa using hi)) h]
theorem names_all {t:List Int}:∀{N:List Sy} {S:List ByteArray},S.length=N.length→(∀i,i<N.length→atN t (N.getD i Sy.zero).na=(0,S.getD i .empty))→(namesI t N).2=S
 | [],S,hl,_=>by
   cases S with
   | nil=>rfl
   | cons=>simp at hl
 | p :: ps,[],hl,_=>by simp at hl
 | p :: ps,s :: S,hl,ha=>by
   have h0:atN t p.na=(0,s):=ha 0 (by simp);unfold namesI;rw [h0];simp only [ne_eq,not_true_eq_false,if_false];rw [names_all (N:=ps) (S:=S) (by simpa using hl) (fun i hi=>ha (i+1) (by simpa using hi))]
theorem vB_in {m:Sp} (h:MayB m) (i:Nat):0≤(vB m).getD i 0∧(vB m).getD i 0≤18446744073709551615:=by
 have p:=h.places;have h0:=out_bd h 0;have h1:=p.small h;have h2:=h.tab;have h3:=p.sn;have h4:=p.rn;have h5:=h.fxl;have h6:=p.st;have h7:=p.sy;have h8:=p.re;have h9:=p.dy;have h10:=p.c;have h11:=p.sz;unfold vB
 match i with
 | 0=>simp only [List.getD_cons_zero];omega
 | 1=>simp only [List.getD_cons_zero,List.getD_cons_succ];omega
 | 2=>simp only [List.getD_cons_zero,List.getD_cons_succ];omega
 | 3=>simp only [List.getD_cons_zero,List.getD_cons_succ];omega
 | 4=>simp only [List.getD_cons_zero,List.getD_cons_succ];omega
 | 5=>simp only [List.getD_cons_zero,List.getD_cons_succ];omega
 | 6=>simp only [List.getD_cons_zero,List.getD_cons_succ];omega
 | n+7=>simp
theorem vK_some {m:Sp}:(vK (vB m) 7).getD 0 0=(outB m).getD 0 0∧(vK (vB m) 7).getD 1 0=strB m∧(vK (vB m) 7).getD 2 0=(tabB m).length∧(vK (vB m) 7).getD 4 0=symN m∧(symN m≠0→(vK (vB m) 7).getD 3 0=symB m):=by
 have e0:(vB m).getD 0 0=(outB m).getD 0 0:=rfl;have e1:(vB m).getD 1 0=strB m:=rfl;have e2:(vB m).getD 2 0=(tabB m).length:=rfl;have e3:(vB m).getD 3 0=symB m:=rfl;have e4:(vB m).getD 4 0=symN m:=rfl;refine ⟨?_,?_,?_,?_,fun hn=>?_⟩
 ·rw [vK_getD (by decide),e0];unfold keepD;rw [e0];by_cases hz:(outB m).getD 0 0=0
  ·rw [hz];simp
  ·rw [if_pos (by simpa using hz)]
 ·rw [vK_getD (by decide),e1,if_pos (by simp [keepD])]
 ·rw [vK_getD (by decide),e2,if_pos (by simp [keepD])]
 ·rw [vK_getD (by decide),e4];unfold keepD;rw [e4];by_cases hz:symN m=0
  ·rw [hz];simp
  ·rw [if_pos (by simp [hz])]
 ·rw [vK_getD (by decide),e3];unfold keepD;rw [e4,if_pos (by simp [hn])]
theorem needO_at {m:Sp} {i:Nat} (hi:i<m.nd.length):(needO m).getD i 0=(outB m).getD (1+i) 0:=by
 unfold needO;rw [List.getD_eq_getElem?_getD,List.getElem?_take_of_lt hi,List.getElem?_drop,←List.getD_eq_getElem?_getD]
theorem list_nd {m:Sp} {i:Nat} (hi:i<m.nd.length):nm (listB m) (1+i)=m.nd.getD i .empty:=by
 unfold nm listB;rw [Nat.add_comm,List.getD_cons_succ,List.getD_eq_getElem?_getD,List.getElem?_append_left hi,←List.getD_eq_getElem?_getD]
theorem list_df {m:Sp} {i:Nat} (hi:i<m.df.length):nm (listB m) (1+m.nd.length+i)=(m.df.map (·.nm)).getD i .empty:=by
 unfold nm listB;rw [show 1+m.nd.length+i=(m.nd.length+i)+1 by omega,List.getD_cons_succ,List.getD_eq_getElem?_getD,List.getElem?_append_right (by omega),Nat.add_sub_cancel_left,←List.getD_eq_getElem?_getD]
theorem name_at {m:Sp} (hc:Clean (listB m)) {i:Nat} (hi:i<(listB m).length):atN (tabB m) ((outB m).getD i 0)=(0,nm (listB m) i):=at_out hc hi
theorem file_dyn (m:Sp):∃A C,fileB m=A++(putBy (needO m) (vB m)++C)∧(A.length:Int)=dynB m:=by
 obtain ⟨R,hR⟩:=file_front m;refine ⟨enc m.k (entryB m) 64 (countB m)++k4_flatE (segsB m),tabB m++R,by rw [hR];simp only [List.append_assoc],?_⟩;rw [List.length_append,enc_len,k4_flatE_len];have:=segsB_len m;unfold dynB;omega
theorem file_tab (m:Sp):∃A C,fileB m=A++(tabB m++C)∧(A.length:Int)=strB m:=by
 obtain ⟨R,hR⟩:=file_front m;refine ⟨frontB m,R,by rw [hR];unfold frontB k4_flatE;simp only [List.append_assoc],front_len m⟩
theorem file_sym {m:Sp} (hd:0<m.df.length):∃A C,fileB m=A++(k6_flatE (Sy.zero :: symsB m m.df.length)++C)∧(A.length:Int)=symB m:=by
 obtain ⟨R,hR⟩:=file_pre m;refine ⟨headB m,R,?_,head_len m⟩;rw [hR];unfold symsP k6_flatE;rw [if_pos hd,List.flatMap_cons,enc_zero];simp only [List.append_assoc]
theorem syms_ok9 {m:Sp} (h:MayB m):∀s∈Sy.zero :: symsB m m.df.length,s.Ok:=by
 intro s hs;rcases List.mem_cons.1 hs with rfl | hs
 ·exact Sy.zero_ok
 ·obtain ⟨i,hi,rfl⟩:=List.mem_map.1 hs;have hi':i<m.df.length:=List.mem_range.1 hi;have hm:m.df.getD i Df.zero∈m.df:=by rw [List.getD_eq_getElem?_getD,List.getElem?_eq_getElem hi'];exact List.getElem_mem hi'
  exact sym_ok (h.df _ hm) (h.dok _ hm) (out_bd h _)
theorem heads_of {m:Sp} (h:MayB m):kOf (fileB m)=m.k∧eOf (fileB m)=entryB m∧sOf (fileB m)=64∧cOf (fileB m)=countB m∧isHead (fileB m)=true∧k4_tabR (fileB m) 64 (countB m)=(0,segsB m):=by
 obtain ⟨R,hR⟩:=file_front m;have hcb:=count_bd m;have hk:=h.k;have hsl:=segsB_len m;have he:0≤entryB m∧entryB m≤18446744073709551615:=by
  unfold entryB;split
  ·exact wrap_bd _
  ·decide
 obtain ⟨q1,q2,q3,q4,q5⟩:=head_put (k:=m.k) (e:=entryB m) (s:=64) (c:=countB m) (validB_iff.2 (by omega)) he.1 he.2 (by decide) (by decide) (k4_flatE (segsB m)++(putBy (needO m) (vB m)++(tabB m++R)));rw [←hR] at q1 q2 q3 q4 q5;refine ⟨q1,q2,q3,q4,q5,?_⟩;have ht:=tabR_back' (zs:=enc m.k (entryB m) 64 (countB m)) (more:=putBy (needO m) (vB m)++(tabB m++R)) (segs_ok h) (by omega);rw [←hR,enc_len,hsl] at ht;exact ht
theorem back_names {m:Sp} (h:MayB m) (hc:Clean (listB m)) (hp:(parseI (fileB m)).1=0) :
 (parseI (fileB m)).2.so=m.so∧(parseI (fileB m)).2.nd=m.nd∧(0<m.df.length→(parseI (fileB m)).2.nm=.empty :: m.df.map (·.nm))∧(parseI (fileB m)).2.zs=fileB m∧(parseI (fileB m)).2.sg=segsB m:=by
 obtain ⟨q1,q2,q3,q4,q5,hT⟩:=heads_of h;have pl:=h.places;have hsm:=pl.small h;have hll:=listB_len m;obtain ⟨p1,p2⟩:=pb_parse_ok hp;rw [q3,q4,hT] at p2;have hi0:(imaI (fileB m) (kOf (fileB m)) (eOf (fileB m)) 64 (countB m) (segsB m)).1=0:=by rw [←p2];exact hp
 obtain ⟨i1,i2⟩:=pb_ima_ok dyn_find hi0;rw [p2,i2];simp only
 have n1:=pb_named_ok i1;obtain ⟨A,C,hA,hAl⟩:=file_dyn m;have hcut:cutI (fileB m) (dynB m) (sizeB m)=(0,putBy (needO m) (vB m)):=by
  conv=>lhs;rw [hA]
  exact cut_front hAl (by rw [putV_len];rfl)
 have hget:=dyn_back (more:=[]) (N:=needO m) (V:=vB m) (fun x hx=>by
  obtain ⟨i,hi,rfl⟩:=List.getElem_of_mem hx;have h9:=needO_len m;have:=needO_at (m:=m) (i:=i) (by omega);rw [List.getD_eq_getElem?_getD,List.getElem?_eq_getElem hi] at this;have h8:=out_bd h (1+i);rw [←this] at h8;have h7:0≤(needO m)[i]∧(needO m)[i]≤65536:=h8;omega) (vB_in h)
 rw [List.append_nil] at hget;simp only at n1;rw [hcut] at n1;simp only at n1;rw [hget] at n1;simp only at n1;obtain ⟨v0,v1,v2,v4,v3⟩:=vK_some (m:=m);generalize vK (vB m) 7=V at n1 v0 v1 v2 v3 v4;have e1:=pb_ents_ok (by rw [←n1];exact i1);obtain ⟨B,D,hB,hBl⟩:=file_tab m;have htp:=tab_pos (listB m) (listB m).length;have hby:=bytes_front hB hBl rfl (by unfold tabB;omega) (by have:=pl.sy;have:=pl.re;have:=pl.en;have:=pl.sn;have:=pl.rn;omega) (by omega);rw [v1,v2,hby] at e1;simp only at e1;have ha0:=name_at hc (i:=0) (by omega);have hso:nm (listB m) 0=m.so:=rfl;have e2:=pb_son_ok (L:=segsB m) (zs:=fileB m) (V:=V) (N:=needO m) (t:=tabB m) (so:=m.so) (by rw [v0,ha0,hso]) (fun hz=>by
  rw [v0] at hz;rw [hz] at ha0;have h9:atN (tabB m) 0=(0,.empty):=by
   have:=at_zero (L:=listB m) (k:=(listB m).length);exact this
  rw [h9] at ha0;injection ha0 with _ h8;rw [←hso,←h8])
 rw [e2] at e1;have hn0:(needsI (segsB m) (fileB m) V (needO m) (tabB m) m.so).1=0:=by rw [←e1,←n1];exact i1
 obtain ⟨d1,d2⟩:=pb_needs_ok hn0;have hneed:=need_all (t:=tabB m) (N:=needO m) (S:=m.nd) (needO_len m).symm (fun i hi=>by
  rw [needO_len] at hi;rw [needO_at hi,name_at hc (by omega),list_nd hi]) d1
 rw [hneed] at d2;have hs0:(symsI (segsB m) (fileB m) V (tabB m) m.so m.nd).1=0:=by rw [←d2];exact hn0
 obtain ⟨s1,s2,s3⟩:=pb_syms_ok hs0;rw [n1,e1,d2];refine ⟨s1,s2,fun hdf=>?_,trivial,trivial⟩;have hsn:symN m=m.df.length+1:=by unfold symN;rw [if_pos hdf]
 obtain ⟨t1,t2⟩:=s3 (by rw [v4,hsn];omega);rw [t2];obtain ⟨E,G,hE,hEl⟩:=file_sym hdf;have hfl:((k6_flatE (Sy.zero :: symsB m m.df.length)).length:Int)=24*symN m:=by
  rw [flatE_len',hsn];unfold symsB;simp
 have hbs:=bytes_front hE hEl hfl (by omega) (by have:=pl.re;have:=pl.en;have:=pl.rn;omega) (by omega);rw [v4,v3 (by omega),hbs,tabY_flat (syms_ok9 h)];have hsl:(symsB m m.df.length).length=m.df.length:=by unfold symsB;simp
 exact names_all (by simp [hsl]) (fun i hi=>by
  cases i with
  | zero=>exact at_zero (L:=listB m) (k:=(listB m).length)
  | succ i=>
    have hi':i<m.df.length:=by simp [hsl] at hi;omega
    have hna:((Sy.zero :: symsB m m.df.length).getD (i+1) Sy.zero).na=(outB m).getD (1+m.nd.length+i) 0:=by
     rw [List.getD_cons_succ];unfold symsB;rw [List.getD_eq_getElem?_getD,List.getElem?_map,List.getElem?_range hi'];rfl
    rw [hna,name_at hc (by omega),list_df hi',List.getD_cons_succ])
theorem below_drewN_blk {w:World} {g:Nat} {C:Array Value} {t:TypeId} (h:Blk w g C t) (n:Nat):Blk (w.drewN n) g C t:=by
 induction n with
 | zero=>exact h
 | succ n ih=>exact ih.drew
theorem symsE_at {t:Option Sg}:∀{l:List Sy} {k:Nat},(∀j,j<k→symE t (l.getD j Sy.zero)=0)→k<l.length→symE t (l.getD k Sy.zero)≠0→symsE t l=symE t (l.getD k Sy.zero)
 | [],k,_,h,_=>by simp at h
 | s :: l,0,_,_,h=>by
   have h':symE t s≠0:=h;unfold symsE;rw [if_pos h'];rfl
 | s :: l,k+1,h0,h1,h2=>by
   have h':symE t s=0:=h0 0 (by omega);unfold symsE;rw [if_neg (by rw [h'];decide)];exact symsE_at (l:=l) (k:=k) (fun j hj=>h0 (j+1) (by omega)) (by simpa using h1) h2
theorem symsE_no {t:Option Sg}:∀{l:List Sy},(∀j,j<l.length→symE t (l.getD j Sy.zero)=0)→symsE t l=0
 | [],_=>rfl
 | s :: l,h=>by
   have h':symE t s=0:=h 0 (by simp);unfold symsE;rw [if_neg (by rw [h'];decide)];exact symsE_no (l:=l) (fun j hj=>h (j+1) (by simpa using hj))
theorem upto_eq {P:Nat→Prop} {k:Nat} (h:∀j,j<k→P j) (hk:P k):∀j,j<k+1→P j:=by
 intro j hj;by_cases e:j=k
 ·subst e;exact hk
 ·exact h j (by omega)







theorem at2_no {L:List Sg} {k:Nat} (h:¬((L.getD k sg0).ty=2∨(L.getD k sg0).ty=7)∨(L.getD k sg0).fi=0):at2 L k=0:=by
 unfold at2 step2;rw [if_neg];rintro ⟨h1,h2⟩;rcases h with h | h
 ·exact h h1
 ·exact h2 h
theorem at2_yes {L:List Sg} {k:Nat} (h:(L.getD k sg0).ty=2∨(L.getD k sg0).ty=7) (hf:(L.getD k sg0).fi≠0):at2 L k=if (L.find? (inB (L.getD k sg0))).isSome=true then 0 else 11:=by
 unfold at2 step2;rw [if_pos ⟨h,hf⟩,any_find]
theorem upto_succ {f:Nat→Int} {k:Nat} (h:∀j,j<k→f j=0) (hk:f k=0):∀j,j<k+1→f j=0:=by
 intro j hj;by_cases e:j=k
 ·subst e;exact hk
 ·exact h j (by omega)
theorem loaded_any (B:Nat) (a:Option Addr) (len cap:Nat) (L:List Sg) (w:World) (hs:Sgs w B a len L) (hB:B≤w.heap.size) (hl:(len:Int)≤9223372036854775807) :
 Calls Tryz.prog 92 #[.slice a len cap] w fun e w'=>e=.returned (.int .i64 (firstErr (at2 L) 0 L.length))∧Below w.heap.size w w':=by
 have hmf:∀(fn:Fn) (first cap:Array Value) (w:World),(Instr.makeFunc fn first cap).run Tryz.prog w=.ok (.func fn first cap) w:=fun _ _ _ _=>rfl;obtain ⟨r,hr⟩:∃r,firstErr (at2 L) 0 L.length=r:=⟨_,rfl⟩
 rw [hr];have HR:=Lib.hid hr;have HS:=Lib.hid hs;clear hr hs;go_enter Tryz.func92,Tryz.ntmps92
 go_wp2;go_loopw [4,5,6,9] (fun _ _ _ i wr=>∃k:Nat,k≤len∧i=.int .i64 k∧(∀j,j<k→at2 L j=0)∧Below w.heap.size w wr) (fun _ _ _ i _=>len-(intOf i).toNat)
 case atStart=>exact ⟨0,Nat.zero_le _,rfl,fun j hj=>absurd hj (by omega),Below.refl _ _⟩
 case round=>
  obtain ⟨k,hk,rfl,hno,hbel⟩:=hrel;by_cases hlt:k<len
  ·obtain ⟨b,off,rfl,hbB,hcell⟩:=HS.out.hc (by omega);have hsev:=(hcell k hlt).below (hbel.mono hB) hbB;have hok:=HS.out.okAt hlt;have hLl:=HS.out.hl;have HY:=Lib.hid (at2_yes (L:=L) (k:=k));have HN:=Lib.hid (at2_no (L:=L) (k:=k));have HNO:=Lib.hid (upto_succ hno);have HRE:Hid (at2 L k≠0→r=at2 L k):=Lib.hid (fun h=>by
    rw [←HR.out];exact firstErr_at (fun j _ hj=>hno j hj) (Nat.zero_le _) (by omega) h)
   obtain ⟨s,hsd⟩:∃s,L.getD k sg0=s:=⟨_,rfl⟩
   rw [hsd] at hsev hok HY HN;have HOK:=Lib.hid hok;have HB2:Hid (∀o,Below w.heap.size w (wr.alloc o)):=Lib.hid (fun o=>hbel.alloc hbel.size o);have hbs:=hbel.size;have HC:=Lib.hid (search50 B (some ⟨b,off,none⟩) len cap L (inB s) wr.heap.size (wr.alloc (.cells s.cells 65)) (HS.out.below ((HB2.out _).mono hB)) (by simp;omega) hl (fun q w1 hq h1=>
    loaded1_any s q wr.heap.size w1 hok hq ((Blk.new wr _ _).later h1).sev))
   clear hcell hsd hno hbel hok;obtain ⟨c0,c1,c2,c3,c4,c5,c6⟩:=hsev;obtain ⟨ty,fl,ot,va,fi,me,al⟩:=s;simp only at c0 c1 c2 c3 c4 c5 c6;by_cases hk7:ty=2∨ty=7
   ·by_cases hfi:fi=0
    ·have hn:=Lib.hid (HNO.out (HN.out (.inr hfi)));subst hfi;rcases hk7 with rfl | rfl
     all_goals
      clear HY HN HNO HRE HC;go_wp2;go_roundw
      case rel=>exact ⟨k+1,by omega,by go_num,hn.out,HB2.out _⟩
      case measure=>simp [intOf];omega
    ·have hy:=HY.out hk7 hfi;have hf0:(fi==0)=false:=by simpa using hfi
     obtain ⟨q,hq⟩:∃q,(L.find? (inB ⟨ty,fl,ot,va,fi,me,al⟩)).isSome=q:=⟨_,rfl⟩
     have hc:=HC.out;rw [hq] at hy hc;rw [foundV_eq] at hc;generalize (L.find? (inB ⟨ty,fl,ot,va,fi,me,al⟩)).getD sg0=s2 at hc;obtain ⟨ty2,fl2,ot2,va2,fi2,me2,al2⟩:=s2;have HC2:=Lib.hid hc;clear hc HC HY HN hq;unfold Sg.val Sg.cells at HC2;simp only at HC2;cases q with
     | true=>
       have hn:=Lib.hid (HNO.out (by rw [hy];rfl));rcases hk7 with rfl | rfl
       all_goals
        clear HRE HNO hy;go_wp2_with fail;refine HC2.out.mono ?_;rintro e w2 ⟨rfl,hb2⟩;have hbb:=(HB2.out _).trans (hb2.mono (HB2.out _).size);clear hb2;go_wp2;go_roundw
        case rel=>exact ⟨k+1,by omega,by go_num,hn.out,hbb.alloc hbb.size _⟩
        case measure=>simp [intOf];omega
     | false=>
       have hr11:r=11:=by
        have h11:at2 L k=11:=by rw [hy];rfl
        rw [HRE.out (by rw [h11];decide),h11]
       subst hr11;rcases hk7 with rfl | rfl
       all_goals
        clear HRE HNO hy;go_wp2_with fail;refine HC2.out.mono ?_;rintro e w2 ⟨rfl,hb2⟩;have hbb:=(HB2.out _).trans (hb2.mono (HB2.out _).size);clear hb2;go_wp2;go_ret;exact ⟨rfl,hbb.alloc hbb.size _⟩
   ·have hn:=Lib.hid (HNO.out (HN.out (.inl hk7)));have h2:(ty != 2)=true:=by simp;omega
    have h7:(ty != 7)=true:=by simp;omega
    clear HY HN HNO HRE HC hk7;go_wp2;go_roundw
    case rel=>exact ⟨k+1,by omega,by go_num,hn.out,HB2.out _⟩
    case measure=>simp [intOf];omega
  ·obtain rfl:k=len:=by omega
   have hr0:r=0:=by
    rw [←HR.out];exact firstErr_no (fun j _ hj=>hno j (by have:=HS.out.hl;omega))
   subst hr0;go_wp2;go_ret;exact ⟨rfl,hbel⟩
theorem at1_alone {L:List Sg} {size:Int} {k:Nat} (h:aloneS (L.getD k sg0) size≠0):at1 L size k=aloneS (L.getD k sg0) size:=by
 unfold at1 step1;rw [if_pos h]
theorem at1_load {L:List Sg} {size:Int} {k:Nat} (h:aloneS (L.getD k sg0) size=0) (h1:(L.getD k sg0).ty=1):at1 L size k=if firstS (L.getD k sg0)<lastEnd (L.take k) then 12 else 0:=by
 unfold at1 step1;rw [if_neg (by omega),if_pos h1]
theorem at1_one {L:List Sg} {size:Int} {k:Nat} (h:aloneS (L.getD k sg0) size=0) (h1:(L.getD k sg0).ty=2∨(L.getD k sg0).ty=7):at1 L size k=if ((L.take k).find? (kindB (L.getD k sg0).ty)).isSome=true then 12 else 0:=by
 unfold at1 step1;rw [if_neg (by omega),if_neg (by omega),if_pos h1,any_find];rfl
theorem at1_rest {L:List Sg} {size:Int} {k:Nat} (h:aloneS (L.getD k sg0) size=0) (h1:(L.getD k sg0).ty≠1) (h2:(L.getD k sg0).ty≠2) (h7:(L.getD k sg0).ty≠7):at1 L size k=0:=by
 unfold at1 step1;rw [if_neg (by omega),if_neg h1,if_neg (by omega)]
theorem lastEnd_step {L:List Sg} {k:Nat} (h:k<L.length):lastEnd (L.take (k+1))=if (L.getD k sg0).ty=1 then behindS (L.getD k sg0) else lastEnd (L.take k):=by
 rw [take_snoc h,lastEnd_snoc]
theorem chk_at1' {L:List Sg} {size r:Int} {k:Nat} (hr:checkS L size=r) (h:∀j,j<k→at1 L size j=0) (hk:k<L.length) (he:at1 L size k≠0):r=at1 L size k:=by
 rw [←hr,chk_at1 h hk he]
theorem check1_any (B:Nat) (a:Option Addr) (len cap:Nat) (L:List Sg) (size:Int) (w:World) (hs:Sgs w B a len L) (hB:B≤w.heap.size) (hcap:len≤cap) (hcm:(cap:Int)≤9223372036854775807) (z0:0≤size) (z1:size≤18446744073709551615) :
 Calls Tryz.prog 47 #[.slice a len cap,.int .u64 size] w fun e w'=>e=.returned (.int .i64 (checkS L size))∧Below w.heap.size w w':=by
 obtain ⟨r,hr⟩:∃r,checkS L size=r:=⟨_,rfl⟩
 rw [hr];have HR:=Lib.hid hr;have HS:=Lib.hid hs;clear hr hs;go_enter Tryz.func47,Tryz.ntmps47
 go_wp2;go_loopw [5,6,7,8,9,10,11,12,15] (fun v _ _ _ _ _ _ _ i wr=>∃k:Nat,k≤len∧i=.int .i64 k∧v=.int .u64 (lastEnd (L.take k))∧(∀j,j<k→at1 L size j=0)∧Below w.heap.size w wr) (fun _ _ _ _ _ _ _ _ i _=>len-(intOf i).toNat)
 case atStart=>exact ⟨0,Nat.zero_le _,rfl,rfl,fun j hj=>absurd hj (by omega),Below.refl _ _⟩
 case round=>
  obtain ⟨k,hk,rfl,rfl,hno,hbel⟩:=hrel;by_cases hlt:k<len
  ·obtain ⟨b,off,rfl,hbB,hcell⟩:=HS.out.hc (by omega);have hsev:=(hcell k hlt).below (hbel.mono hB) hbB;have hok:=HS.out.okAt hlt;have hLl:=HS.out.hl;have HA:=Lib.hid (at1_alone (L:=L) (size:=size) (k:=k));have HL:=Lib.hid (at1_load (L:=L) (size:=size) (k:=k));have HO:=Lib.hid (at1_one (L:=L) (size:=size) (k:=k));have HE:=Lib.hid (at1_rest (L:=L) (size:=size) (k:=k));have HLE:=Lib.hid (lastEnd_step (L:=L) (k:=k) (by omega));have HNO:=Lib.hid (upto_succ hno);have HRE:=Lib.hid (chk_at1' HR.out hno (by omega));have HF:Hid (∀t w1,Below w.heap.size w w1→Calls Tryz.prog 48 #[.slice (some ⟨b,off,none⟩) k cap,.int .u32 t] w1 fun e w'=>e=.returned (.tuple #[foundV ((L.take k).find? (kindB t)),.bool ((L.take k).find? (kindB t)).isSome])∧Below w1.heap.size w1 w'):=Lib.hid (fun t w1 h1=>
    sfind_any B _ k cap (L.take k) t w1 ((HS.out.below (h1.mono hB)).front (by omega)) (by have:=h1.size;omega) (by omega))
   obtain ⟨s,hsd⟩:∃s,L.getD k sg0=s:=⟨_,rfl⟩
   obtain ⟨le,hle⟩:∃le,lastEnd (L.take k)=le:=⟨_,rfl⟩
   rw [hsd] at hsev hok HA HL HO HE HLE;rw [hle] at HL HLE⊢;have HB2:Hid (∀o,Below w.heap.size w (wr.alloc o)):=Lib.hid (fun o=>hbel.alloc hbel.size o);have hbs:=hbel.size;have HCA:=Lib.hid (fun w1=>alone_any s size w1 hok z0 z1);have HPA:=Lib.hid (fun h w1=>pages_ok s w1 hok h);have HSZ:=Lib.hid hlt;clear hcell hsd hno hbel hok hle;obtain ⟨c0,c1,c2,c3,c4,c5,c6⟩:=hsev;obtain ⟨e,he⟩:∃e,aloneS s size=e:=⟨_,rfl⟩
   rw [he] at HA HCA HL HO HE;by_cases he0:e=0
   ·subst he0;have hal:=alone0 he;have HV:=Lib.hid hal.va;clear he hal HA;obtain ⟨ty,fl,ot,va,fi,me,al⟩:=s;simp only at c0 c1 c2 c3 c4 c5 c6;by_cases h1:ty=1
    ·have hll:=HL.out rfl h1;have hv:=HV.out (by show ty≠0;omega);have HP:=Lib.hid (HPA.out hv);have HLE':=HLE.out;rw [if_pos (show (⟨ty,fl,ot,va,fi,me,al⟩:Sg).ty=1 from h1)] at HLE';subst h1;generalize firstS ⟨1,fl,ot,va,fi,me,al⟩=fs at hll HP;generalize behindS ⟨1,fl,ot,va,fi,me,al⟩=bh at HLE' HP;clear HF HL HO HE HPA HV hv;unfold Sg.val at *;simp only at HCA HP;by_cases hov:fs<le
     ·rw [if_pos hov] at hll;have hr2:=HRE.out (by rw [hll];decide);rw [hll] at hr2;subst hr2;clear HRE HNO hll HLE HLE';go_wp2_with fail;refine (HCA.out _).mono ?_;rintro e w2 ⟨rfl,hb2⟩;obtain ⟨q0,q1,q2,q3,q4,q5,q6⟩:=((Blk.new wr _ _).later hb2).c7;have HB3:=Lib.hid ((HB2.out _).trans (hb2.mono (HB2.out _).size));clear hb2;go_wp2_with fail;refine (HP.out _).mono ?_;rintro e w3 ⟨rfl,hb3⟩;have HB4:=Lib.hid (HB3.out.trans (hb3.mono HB3.out.size));clear hb3;go_wp2;go_ret;exact ⟨rfl,HB4.out⟩
     ·rw [if_neg hov] at hll;have hn:=Lib.hid (HNO.out hll);clear HRE HNO hll;go_wp2_with fail;refine (HCA.out _).mono ?_;rintro e w2 ⟨rfl,hb2⟩;obtain ⟨q0,q1,q2,q3,q4,q5,q6⟩:=((Blk.new wr _ _).later hb2).c7;have HB3:=Lib.hid ((HB2.out _).trans (hb2.mono (HB2.out _).size));clear hb2;go_wp2_with fail;refine (HP.out _).mono ?_;rintro e w3 ⟨rfl,hb3⟩;have HB4:=Lib.hid (HB3.out.trans (hb3.mono HB3.out.size));clear hb3;go_wp2;go_roundw
      case rel=>exact ⟨k+1,by omega,by go_num,by rw [HLE'],hn.out,HB4.out⟩
      case measure=>simp [intOf];omega
    ·have HLE':=HLE.out;rw [if_neg (show ¬(⟨ty,fl,ot,va,fi,me,al⟩:Sg).ty=1 from h1)] at HLE';by_cases h27:ty=2∨ty=7
     ·have hoo:=HO.out rfl h27;have HFT:=Lib.hid (HF.out ty);simp only at hoo;obtain ⟨q,hq⟩:∃q,((L.take k).find? (kindB ty)).isSome=q:=⟨_,rfl⟩
      rw [hq,foundV_eq] at HFT;rw [hq] at hoo;generalize ((L.take k).find? (kindB ty)).getD sg0=s2 at HFT;obtain ⟨ty2,fl2,ot2,va2,fi2,me2,al2⟩:=s2;clear HF HL HO HE HPA HV hq;unfold Sg.val at *;simp only at HCA HFT;have HOO:=Lib.hid hoo;rcases h27 with rfl | rfl
      all_goals
       clear hoo;go_wp2_with fail;refine (HCA.out _).mono ?_;rintro e w2 ⟨rfl,hb2⟩;obtain ⟨q0,q1,q2,q3,q4,q5,q6⟩:=((Blk.new wr _ _).later hb2).c7;have hqa:=fun o=>(((Blk.new wr _ _).later hb2).alloc o).c7.1;have hqb:=fun o=>((((Blk.new wr _ _).later hb2).drew).alloc o).c7.1;have HB3:=Lib.hid ((HB2.out _).trans (hb2.mono (HB2.out _).size));clear hb2;go_wp2;go_region_with (go_at_call 48;refine (HFT.out _ (by first | exact HB3.out.drew | exact HB3.out.drew.alloc HB3.out.size _)).mono ?_;rintro r2 w4 ⟨rfl,hb4⟩;(first | (have zb:Blk w4 w2.heap.size #[.int .u32 0,.int .u32 0,.int .u64 0,.int .u64 0,.int .u64 0,.int .u64 0,.int .u64 0] 65:=(Blk.new w2.drew _ _).later hb4;have zz:=zb.c7;have zf:=zb.f7;clear zb;obtain ⟨z0',z1',z2',z3',z4',z5',z6'⟩:=zz;obtain ⟨y0,y1,y2,y3,y4,y5,y6⟩:=zf) | skip);have HB5:Hid (Below w.heap.size w w4):=Lib.hid (by first | exact HB3.out.drew.trans (hb4.mono HB3.out.size) | exact (HB3.out.drew.alloc HB3.out.size _).trans (hb4.mono (HB3.out.drew.alloc HB3.out.size _).size));clear hb4)
       all_goals
        cases q with
        | true=>
          have hoo:=HOO.out;rw [if_pos rfl] at hoo;have hr2:=HRE.out (by rw [hoo];decide);rw [hoo] at hr2;subst hr2;clear HRE HNO hoo HLE HLE' HOO;go_wp2;go_ret;exact ⟨rfl,by first | with_reducible exact HB5.out.alloc HB5.out.size _ | with_reducible exact (((((((HB5.out.setCell HB3.out.size _).setCell HB3.out.size _).setCell HB3.out.size _).setCell HB3.out.size _).setCell HB3.out.size _).setCell HB3.out.size _).setCell HB3.out.size _)⟩
        | false=>
          have hoo:=HOO.out;rw [if_neg (by decide)] at hoo;have hn:=Lib.hid (HNO.out hoo);clear HRE HNO hoo HOO;go_wp2;go_roundw
          case rel=>exact ⟨k+1,by omega,by go_num,by rw [HLE'],hn.out,by first | with_reducible exact HB5.out.alloc HB5.out.size _ | with_reducible exact (((((((HB5.out.setCell HB3.out.size _).setCell HB3.out.size _).setCell HB3.out.size _).setCell HB3.out.size _).setCell HB3.out.size _).setCell HB3.out.size _).setCell HB3.out.size _)⟩
          case measure=>simp [intOf];omega
     ·have hn:=Lib.hid (HNO.out (HE.out rfl h1 (fun h=>h27 (.inl h)) (fun h=>h27 (.inr h))));have h1':(ty==1)=false:=by simpa using h1
      have h2':(ty==2)=false:=by simp;omega
      have h7':(ty==7)=false:=by simp;omega
      clear HRE HNO HF HL HO HE HPA HV h27 h1;unfold Sg.val at *;simp only at HCA;go_wp2_with fail;refine (HCA.out _).mono ?_;rintro e w2 ⟨rfl,hb2⟩;obtain ⟨q0,q1,q2,q3,q4,q5,q6⟩:=((Blk.new wr _ _).later hb2).c7;have HB3:=Lib.hid ((HB2.out _).trans (hb2.mono (HB2.out _).size));clear hb2;go_wp2;go_roundw
      case rel=>exact ⟨k+1,by omega,by go_num,by rw [HLE'],hn.out,HB3.out⟩
      case measure=>simp [intOf];omega
   ·have ha:=HA.out he0;have hr2:=HRE.out (by rw [ha];exact he0);rw [ha] at hr2;subst hr2;have he0':(r != 0)=true:=by simpa using he0
    obtain ⟨ty,fl,ot,va,fi,me,al⟩:=s;simp only at c0 c1 c2 c3 c4 c5 c6;clear HRE HNO HF HL HO HE HPA HA ha;unfold Sg.val at *;simp only at HCA;go_wp2_with fail;refine (HCA.out _).mono ?_;rintro e w2 ⟨rfl,hb2⟩;have HB3:=Lib.hid ((HB2.out _).trans (hb2.mono (HB2.out _).size));clear hb2;go_wp2;go_ret;exact ⟨rfl,HB3.out⟩
  ·obtain rfl:k=len:=by omega
   have hLl:=HS.out.hl;have hrr:checkS L size=firstErr (at2 L) 0 L.length:=by
    unfold checkS;rw [firstErr_no (fun j _ hj=>hno j (by omega)),if_pos rfl]
   have HC:=Lib.hid (loaded_any B a k cap L wr (HS.out.below (hbel.mono hB)) (by have:=hbel.size;omega) (by omega));rw [←hrr,HR.out] at HC;have HB3:=Lib.hid hbel;clear hbel hno hrr;go_wp2_with fail;refine HC.out.mono ?_;rintro e w2 ⟨rfl,hb2⟩;have HB4:=Lib.hid (HB3.out.trans (hb2.mono HB3.out.size));clear hb2;go_wp2;go_ret;exact ⟨rfl,HB4.out⟩


def ParsePost (Z:Int×Im) (w:World) (e:Ending) (w':World):Prop:=
 (∃x:Iv,e=.returned (.tuple #[x.val,.int .i64 Z.1])∧x.Is w' w'.heap.size Z.2)∧Below w.heap.size w w'
end Go.Proofs.YtclgbdfkdbbinaaGreat
