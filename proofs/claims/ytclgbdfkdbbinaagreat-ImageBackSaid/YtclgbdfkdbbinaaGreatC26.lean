/-
  What is proved here: words and contracts, a part of those that the statement rests on (C26).
  Conditions: none but that the arguments are values of their types.
-/
import Derived.Test.YtclgbdfkdbbinaaGreatC25
import Derived.Test.YtclgbdfkdbbinaaGreatC9
import Derived.Test.YtclgbdfkdbbinaaGreatC14
import Derived.Test.YtclgbdfkdbbinaaGreatC6
import Derived.Test.YtclgbdfkdbbinaaGreatC10
import Derived.Deep.Cut
import Derived.Deep.DeepCutAuto
set_option linter.unusedVariables false
set_option linter.unusedSimpArgs false
set_option maxRecDepth 100000
set_option maxHeartbeats 12800000
namespace Go.Proofs.YtclgbdfkdbbinaaGreat
open Go.RowKit
theorem run_err {f:Pm→Int×Pm} {fs:List (Pm→Int×Pm)} {m:Pm} (h:(f m).1≠0):runI (f :: fs) m=f m:=by rw [runI,if_pos h]
theorem run_ok {f:Pm→Int×Pm} {fs:List (Pm→Int×Pm)} {m:Pm} (h:(f m).1=0):runI (f :: fs) m=runI fs (f m).2:=by rw [runI,if_neg (by rw [h];decide)]
theorem run_nil (m:Pm):runI [] m=(0,m):=rfl
theorem num_nn {l:List Int} (h:∀n∈l,0≤n∧n≤255):0≤num l:=(num_bd h).1
theorem outD_v {zs:List Int} (hz:∀n∈zs,0≤n∧n≤255):∀(f k:Nat) (s:StD),(∀x∈s.v,0≤x)→∀x∈(outD zs f k s).2.v,0≤x
 | 0,k,s,h=>by simp [outD,stD0]
 | f+1,k,s,h=>by
   have hv:0≤valAt zs k:=num_nn (piece_mem hz);unfold outD;split
   ·simp [stD0]
   ·split
    ·split
     ·exact h
     ·simp [stD0]
    ·split
     ·exact outD_v hz f (k+1) ⟨s.nd++[valAt zs k],s.v,s.seen⟩ h
     ·split
      ·simp [stD0]
      ·split
       ·simp [stD0]
       ·rename_i i _ _;refine outD_v hz f (k+1) ⟨s.nd,s.v.set i (valAt zs k),s.seen.set i true⟩ (fun x hx=>?_);rcases List.mem_or_eq_of_mem_set hx with h1 | h1
        ·exact h x h1
        ·rw [h1];exact hv
theorem getDy_v {zs:List Int} (hz:∀n∈zs,0≤n∧n≤255) (i:Nat):0≤(getDy zs).2.v.getD i 0:=by
 have h:=outD_v hz (zs.length+1) 0 stD0 (by simp [stD0]);unfold getDy;rw [List.getD_eq_getElem?_getD];by_cases hi:i<(outD zs (zs.length+1) 0 stD0).2.v.length
 ·rw [List.getElem?_eq_getElem hi];exact h _ (List.getElem_mem hi)
 ·rw [List.getElem?_eq_none (by omega)];simp
theorem bytesI_len {L:List Sg} {zs:List Int} {a s:Int} (h:(bytesI L zs a s).1=0) (s0:0≤s):(bytesI L zs a s).2.length=s.toNat:=by
 unfold bytesI at h⊢;by_cases h1:(placeI L a s).1≠0
 ·rw [if_pos h1] at h;exact absurd h h1
 ·rw [if_neg h1] at h⊢;unfold cutI at h⊢;have hb:=(placeI_bd L a s).1;by_cases h2:(zs.length:Int)<(placeI L a s).2+s
  ·rw [if_pos h2] at h;cases h
  ·rw [if_neg h2];exact piece_len (by omega)
theorem tabY_0 {L:List Sg} {zs:List Int} {a n:Int} (h:(bytesI L zs a (24*n)).1=0) (n0:0≤n):(tabY (bytesI L zs a (24*n)).2).1=0:=by
 have:=bytesI_len h (by omega);unfold tabY;rw [if_pos (by rw [this];omega)]
theorem checkY_11 {L:List Sy} (h:checkY L≠0):checkY L=11:=by
 unfold checkY at h⊢;split
 ·rfl
 ·rw [if_neg ‹_›] at h;exact absurd rfl h
theorem chk_11 {t:List Int} (h:chk t≠0):chk t=11:=by
 unfold chk at h⊢;split
 ·rfl
 ·rw [if_neg ‹_›] at h;exact absurd rfl h
theorem kind_head {zs:List Int} (h:isHead zs=true):kOf zs=2∨kOf zs=3∨kOf zs=4:=by
 unfold isHead at h;rw [Bool.and_eq_true] at h;obtain ⟨h1,h2,-,-⟩:=validB_iff.1 h.1;omega
def EqI (m:Pm) (Z:Int×Pm) (N:Int×Na):Prop:=Z.1=N.1∧(N.1=0→Z.2.m={ m.m with so:=N.2.so,nd:=N.2.nd,nm:=N.2.nm,sy:=N.2.sy,rl:=N.2.rl })
theorem EqI.err {m:Pm} {Z:Int×Pm} {N:Int×Na} (h:Z.1=N.1) (h0:N.1≠0):EqI m Z N:=⟨h,fun e=>absurd e h0⟩
theorem rel_eq (m:Pm) (V:List Int) (h5:m.rt=V.getD 5 0) (h6:m.rz=V.getD 6 0) (hr:m.m.rl=[]) (v6:0≤V.getD 6 0) :
 EqI m (runI [rI] m) (relaI m.m.sg m.m.zs V m.m.so m.m.nd m.m.nm m.m.sy):=by
 have e:runI [rI] m=rI m∨runI [rI] m=(0,(rI m).2)∧(rI m).1=0:=by
  by_cases h:(rI m).1=0
  ·right;rw [run_ok h,run_nil];exact ⟨rfl,h⟩
  ·left;exact run_err h
 have e1:runI [rI] m=rI m:=by
  rcases e with e | ⟨e,h⟩
  ·exact e
  ·rw [e,←h]
 rw [e1];unfold EqI relaI rI;rw [h5,h6];by_cases c1:V.getD 6 0=0
 ·rw [if_pos c1,if_neg (by omega),if_pos (by omega)];exact ⟨rfl,fun _=>by rw [←hr]⟩
 ·rw [if_neg c1];by_cases c2:65536<V.getD 6 0
  ·rw [if_pos c2,if_pos c2];exact ⟨rfl,fun h=>by cases h⟩
  ·rw [if_neg c2,if_neg c2,if_neg (show ¬V.getD 6 0≤0 by omega)];by_cases c3:(bytesI m.m.sg m.m.zs (V.getD 5 0) (V.getD 6 0)).1≠0
   ·rw [if_pos c3,if_pos c3];exact ⟨rfl,fun h=>absurd h c3⟩
   ·rw [if_neg c3,if_neg c3];simp only
    by_cases c4:(tabL (bytesI m.m.sg m.m.zs (V.getD 5 0) (V.getD 6 0)).2).1≠0
    ·rw [if_pos c4,if_pos c4];exact ⟨rfl,fun h=>absurd h c4⟩
    ·rw [if_neg c4,if_neg c4];exact ⟨rfl,fun _=>rfl⟩
theorem syms_eq (m:Pm) (V:List Int) (h3:m.yt=V.getD 3 0) (h4:m.yn=V.getD 4 0) (h5:m.rt=V.getD 5 0) (h6:m.rz=V.getD 6 0) (hn:m.m.nm=[]) (hy:m.m.sy=[]) (hr:m.m.rl=[]) (v4:0≤V.getD 4 0) (v6:0≤V.getD 6 0) :
 EqI m (runI [yI,nmI,rI] m) (symsI m.m.sg m.m.zs V m.t m.m.so m.m.nd):=by
 unfold symsI;by_cases c1:V.getD 4 0=0
 ·rw [if_neg (by omega),if_pos (by omega)];have e1:yI m=(0,m):=by unfold yI;rw [h4,if_pos c1]
  rw [run_ok (by rw [e1]),e1];have e2:nmI m=(0,m):=by
   have hz:namesI m.t m.m.sy=(0,[]):=by rw [hy];rfl
   unfold nmI;rw [hz];simp only [ne_eq,not_true_eq_false,if_false];rw [←hn]
  rw [run_ok (by rw [e2]),e2];have:=rel_eq m V h5 h6 hr v6;rw [hn,hy] at this;exact this
 ·by_cases c2:1024<V.getD 4 0
  ·rw [if_pos c2];have e1:yI m=(13,m):=by unfold yI;rw [h4,if_neg c1,if_pos c2]
   rw [run_err (by rw [e1];exact (by decide:(13:Int)≠0)),e1];exact EqI.err rfl (by decide)
  ·rw [if_neg c2,if_neg (show ¬V.getD 4 0≤0 by omega)];have hq:=fun h=>@tabY_0 m.m.sg m.m.zs (V.getD 3 0) (V.getD 4 0) h v4;generalize hB:bytesI m.m.sg m.m.zs (V.getD 3 0) (24*V.getD 4 0)=B at hq⊢;by_cases c3:B.1≠0
   ·rw [if_pos c3];have e1:yI m=(B.1,m):=by unfold yI;rw [h4,h3,if_neg c1,if_neg c2,hB,if_pos c3]
    rw [run_err (by rw [e1];exact c3),e1];exact EqI.err rfl c3
   ·rw [if_neg c3];have hq0:=hq (by simpa using c3);have e1:yI m=(checkY (tabY B.2).2,{ m with m:={ m.m with sy:=(tabY B.2).2 } }):=by
     unfold yI;rw [h4,h3,if_neg c1,if_neg c2,hB,if_neg c3];simp only
     rw [if_neg (by rw [hq0];decide)]
    generalize (tabY B.2).2=Y at e1⊢;by_cases c4:checkY Y≠0
    ·rw [if_pos c4,run_err (by rw [e1];exact c4),e1];exact EqI.err (checkY_11 c4) (by decide)
    ·rw [if_neg c4,run_ok (by rw [e1];simpa using c4),e1];simp only
     by_cases c5:(namesI m.t Y).1≠0
     ·rw [if_pos c5];have e2:nmI { m with m:={ m.m with sy:=Y } }=((namesI m.t Y).1,{ m with m:={ m.m with sy:=Y } }):=by unfold nmI;rw [if_pos c5]
      rw [run_err (by rw [e2];exact c5),e2];exact EqI.err rfl c5
     ·rw [if_neg c5];have e2:nmI { m with m:={ m.m with sy:=Y } }=(0,{ m with m:={ m.m with sy:=Y,nm:=(namesI m.t Y).2 } }):=by unfold nmI;rw [if_neg c5]
      rw [run_ok (by rw [e2]),e2];exact rel_eq { m with m:={ m.m with sy:=Y,nm:=(namesI m.t Y).2 } } V h5 h6 hr v6
theorem needs_eq (m:Pm) (V N:List Int) (hN:m.N=N) (h3:m.yt=V.getD 3 0) (h4:m.yn=V.getD 4 0) (h5:m.rt=V.getD 5 0) (h6:m.rz=V.getD 6 0) (hn:m.m.nm=[]) (hy:m.m.sy=[]) (hr:m.m.rl=[]) (v4:0≤V.getD 4 0) (v6:0≤V.getD 6 0) :
 EqI m (runI [ndI,yI,nmI,rI] m) (needsI m.m.sg m.m.zs V N m.t m.m.so):=by
 unfold needsI;by_cases c:(needI m.t N).1≠0
 ·rw [if_pos c];have e:ndI m=((needI m.t N).1,m):=by unfold ndI;rw [hN,if_pos c]
  rw [run_err (by rw [e];exact c),e];exact EqI.err rfl c
 ·rw [if_neg c];have e:ndI m=(0,{ m with m:={ m.m with nd:=(needI m.t N).2 } }):=by unfold ndI;rw [hN,if_neg c]
  rw [run_ok (by rw [e]),e];exact syms_eq { m with m:={ m.m with nd:=(needI m.t N).2 } } V h3 h4 h5 h6 hn hy hr v4 v6
theorem son_eq (m:Pm) (V N:List Int) (hN:m.N=N) (h0:m.so=V.getD 0 0) (h3:m.yt=V.getD 3 0) (h4:m.yn=V.getD 4 0) (h5:m.rt=V.getD 5 0) (h6:m.rz=V.getD 6 0) (hs:m.m.so=.empty) (hn:m.m.nm=[]) (hy:m.m.sy=[]) (hr:m.m.rl=[]) (v4:0≤V.getD 4 0) (v6:0≤V.getD 6 0) :
 EqI m (runI [soI,ndI,yI,nmI,rI] m) (sonI m.m.sg m.m.zs V N m.t):=by
 unfold sonI;by_cases c:V.getD 0 0=0
 ·rw [if_pos c];have e:soI m=(0,m):=by unfold soI;rw [h0,if_pos c]
  rw [run_ok (by rw [e]),e];have:=needs_eq m V N hN h3 h4 h5 h6 hn hy hr v4 v6;rw [hs] at this;exact this
 ·rw [if_neg c];have e:soI m=((atN m.t (V.getD 0 0)).1,{ m with m:={ m.m with so:=(atN m.t (V.getD 0 0)).2 } }):=by unfold soI;rw [h0,if_neg c]
  by_cases c2:(atN m.t (V.getD 0 0)).1≠0
  ·rw [if_pos c2,run_err (by rw [e];exact c2),e];exact EqI.err rfl c2
  ·rw [if_neg c2,run_ok (by rw [e];simpa using c2),e];exact needs_eq { m with m:={ m.m with so:=(atN m.t (V.getD 0 0)).2 } } V N hN h3 h4 h5 h6 hn hy hr v4 v6
theorem ents_eq (m:Pm) (V N:List Int) (hN:m.N=N) (h0:m.so=V.getD 0 0) (h1:m.st=V.getD 1 0) (h2:m.sz=V.getD 2 0) (h3:m.yt=V.getD 3 0) (h4:m.yn=V.getD 4 0) (h5:m.rt=V.getD 5 0) (h6:m.rz=V.getD 6 0) (hs:m.m.so=.empty) (hn:m.m.nm=[]) (hy:m.m.sy=[]) (hr:m.m.rl=[]) (v4:0≤V.getD 4 0) (v6:0≤V.getD 6 0) :
 EqI m (runI entsL m) (entsI m.m.sg m.m.zs V N):=by
 unfold entsI entsL;generalize hB:bytesI m.m.sg m.m.zs (V.getD 1 0) (V.getD 2 0)=B;by_cases c:B.1≠0
 ·rw [if_pos c];have e:tableI m=(B.1,m):=by unfold tableI;rw [h1,h2,hB,if_pos c]
  rw [run_err (by rw [e];exact c),e];exact EqI.err rfl c
 ·rw [if_neg c];have e:tableI m=(chk B.2,{ m with t:=B.2 }):=by unfold tableI;rw [h1,h2,hB,if_neg c]
  by_cases c2:chk B.2≠0
  ·rw [if_pos c2,run_err (by rw [e];exact c2),e];exact EqI.err (chk_11 c2) (by decide)
  ·rw [if_neg c2,run_ok (by rw [e];simpa using c2),e];exact son_eq { m with t:=B.2 } V N hN h0 h3 h4 h5 h6 hs hn hy hr v4 v6
def entI (L:List Sg) (zs:List Int):Int×Na:=match L.find? (kindB 2) with
 | none=>(0,na0)
 | some d=>namedI L zs d
theorem dyn_eq (m:Pm) (hz:∀n∈m.m.zs,0≤n∧n≤255) (hs:m.m.so=.empty) (hd:m.m.nd=[]) (hn:m.m.nm=[]) (hy:m.m.sy=[]) (hr:m.m.rl=[]):EqI m (dynI m) (entI m.m.sg m.m.zs):=by
 unfold dynI entI;cases hf:m.m.sg.find? (kindB 2) with
 | none=>
   refine ⟨rfl,fun _=>?_⟩;have h:m.m=⟨m.m.k,m.m.e,m.m.s,m.m.c,m.m.sg,m.m.so,m.m.nd,m.m.nm,m.m.sy,m.m.rl,m.m.zs⟩:=rfl;exact h.trans (by rw [hs,hd,hn,hy,hr];rfl)
 | some d=>
   simp only
   unfold namedI;have hv:=fun i=>getDy_v (cutI_bd hz d.ot d.fi) i;generalize getDy (cutI m.m.zs d.ot d.fi).2=D at hv⊢;by_cases c:D.1≠0
   ·rw [if_pos c,if_pos c];exact EqI.err rfl c
   ·rw [if_neg c,if_neg c];exact ents_eq { m with N:=D.2.nd,so:=D.2.v.getD 0 0,st:=D.2.v.getD 1 0,sz:=D.2.v.getD 2 0,yt:=D.2.v.getD 3 0,yn:=D.2.v.getD 4 0,rt:=D.2.v.getD 5 0,rz:=D.2.v.getD 6 0 } D.2.v D.2.nd rfl rfl rfl rfl rfl rfl rfl rfl hs hn hy hr (hv 4) (hv 6)
theorem in_eq {s:Sg} {r:Rl} (hs:s.Ok) (hr:r.Ok) (h:s.ty=1→s.va≤4294967296∧s.me≤4294967296-s.va):inC r.of s=inI r s:=by
 unfold inC inI;rw [decide_eq_decide];have h1:=hs.va;have h2:=hs.me;have h3:=hr.of;constructor
 ·rintro ⟨a,b,c,d⟩;have:=h a;refine ⟨a,c,?_,?_⟩
  ·rw [IntKind.wrap_u64];omega
  ·rw [IntKind.wrap_u64,IntKind.wrap_u64];omega
 ·rintro ⟨a,b,c,d⟩;have:=h a;rw [IntKind.wrap_u64] at c;rw [IntKind.wrap_u64,IntKind.wrap_u64] at d;exact ⟨a,by omega,b,by omega⟩
theorem ok_eq {L:List Sg} {r:Rl} {n:Int} (hL:∀s∈L,s.Ok) (hr:r.Ok) (h:checkS L n=0):okC L r=heldR L r:=by
 unfold okC heldR
 congr 1
 rw [Bool.eq_iff_iff,List.any_eq_true,List.any_eq_true];have e:∀s∈L,inC r.of s=inI r s:=by
  intro s hs;refine in_eq (hL s hs) hr (fun h1=>?_);obtain ⟨k,hk,rfl⟩:=List.getElem_of_mem hs;have:=(alone0 (step1_alone (chk_all h k hk))).va;rw [List.getD_eq_getElem?_getD,List.getElem?_eq_getElem hk] at this;exact this (by rw [show ((some L[k]).getD sg0)=L[k] from rfl,h1];decide)
 constructor
 ·rintro ⟨s,hs,h1⟩;exact ⟨s,hs,by rw [←e s hs];exact h1⟩
 ·rintro ⟨s,hs,h1⟩;exact ⟨s,hs,by rw [e s hs];exact h1⟩
theorem any_eq {α:Type} {p q:α→Bool} {L:List α} (h:∀x∈L,p x=q x):L.any p=L.any q:=by
 rw [Bool.eq_iff_iff,List.any_eq_true,List.any_eq_true];constructor
 ·rintro ⟨s,hs,h1⟩;exact ⟨s,hs,by rw [←h s hs];exact h1⟩
 ·rintro ⟨s,hs,h1⟩;exact ⟨s,hs,by rw [h s hs];exact h1⟩
theorem bytesI_bd9 {L:List Sg} {zs:List Int} (h:∀n∈zs,0≤n∧n≤255) (a s:Int):∀n∈(bytesI L zs a s).2,0≤n∧n≤255:=bytesI_bd h _ _ _
theorem ent_rl {L:List Sg} {zs:List Int} (hz:∀n∈zs,0≤n∧n≤255):∀s∈(entI L zs).2.rl,s.Ok:=by
 have h0:∀s∈na0.rl,s.Ok:=fun s hs=>by cases hs
 have hR:∀V so nd nm sy,∀s∈(relaI L zs V so nd nm sy).2.rl,s.Ok:=by
  intro V so nd nm sy;unfold relaI;repeat' split
  all_goals first | exact h0 | (intro s hs;cases hs) | exact tabL_ok (bytesI_bd9 hz _ _)
 have hY:∀V t so nd,∀s∈(symsI L zs V t so nd).2.rl,s.Ok:=by
  intro V t so nd;unfold symsI;repeat' split
  all_goals first | exact h0 | exact hR _ _ _ _ _
 unfold entI;cases L.find? (kindB 2) with
 | none=>exact h0
 | some d=>
   unfold namedI entsI sonI needsI;simp only
   repeat' split
   all_goals first | exact h0 | exact hY _ _ _ _
theorem checks_eq {m:Pm} {L:List Sg} {n:Int} (hg:m.m.sg=L) (hL:∀s∈L,s.Ok) (hr:∀r∈m.m.rl,r.Ok) (h:checkS L n=0) :
 (runI [crI,csI] m).1=heldI L m.m.sy m.m.rl∧(runI [crI,csI] m).2=m:=by
 have e:m.m.rl.any (fun r=>!okC m.m.sg r)=m.m.rl.any (fun r=>!heldR L r):=any_eq (fun r hr'=>by rw [hg,ok_eq hL (hr r hr') h]);unfold heldI;by_cases c:m.m.rl.any (fun r=>!heldR L r)=true
 ·have e1:crI m=(40,m):=by unfold crI;rw [e,if_pos c]
  rw [if_pos c,run_err (by rw [e1];exact (by decide:(40:Int)≠0)),e1];exact ⟨rfl,rfl⟩
 ·have e1:crI m=(0,m):=by unfold crI;rw [e,if_neg c]
  rw [if_neg c,run_ok (by rw [e1]),e1];have e2:csI m=(symsE (L.find? (kindB 7)) m.m.sy,m):=by unfold csI;rw [hg]
  by_cases c2:symsE (L.find? (kindB 7)) m.m.sy≠0
  ·rw [run_err (by rw [e2];exact c2),e2];exact ⟨rfl,rfl⟩
  ·rw [run_ok (by rw [e2];simpa using c2),e2,run_nil];exact ⟨by simpa using (Classical.not_not.1 c2).symm,rfl⟩
theorem parse_eq (zs:List Int) (hz:∀n∈zs,0≤n∧n≤255):((runI allL (pm0 zs)).1,if (runI allL (pm0 zs)).1=0 then (runI allL (pm0 zs)).2.m else im0)=parseI zs:=by
 unfold parseI allL;have err:∀(Z:Int×Pm) (e:Int),Z.1=e→e≠0→((Z.1,if Z.1=0 then Z.2.m else im0):Int×Im)=(e,im0):=fun Z e h h0=>by rw [h,if_neg h0]
 by_cases c1:65536<zs.length
 ·rw [if_pos c1];have e1:takeI (pm0 zs)=(13,pm0 zs):=by unfold takeI;exact if_pos c1
  rw [run_err (by rw [e1];exact (by decide:(13:Int)≠0)),e1];exact err _ 13 rfl (by decide)
 rw [if_neg c1];have e1:takeI (pm0 zs)=(0,{ pm0 zs with m:={ im0 with zs:=zs } }):=by unfold takeI;exact if_neg c1
 rw [run_ok (by rw [e1]),e1];simp only
 obtain ⟨m1,hm1⟩:∃m1:Pm,({ pm0 zs with m:={ im0 with zs:=zs } }:Pm)=m1:=⟨_,rfl⟩
 rw [hm1];have hmz:m1.m.zs=zs:=by rw [←hm1]
 by_cases c2:zs.length<64
 ·rw [if_pos c2];have e2:headI m1=(10,m1):=by unfold headI;rw [hmz,if_pos c2]
  rw [run_err (by rw [e2];exact (by decide:(10:Int)≠0)),e2];exact err _ 10 rfl (by decide)
 rw [if_neg c2];by_cases c3:isHead zs=false
 ·rw [if_pos c3];have e2:headI m1=(11,m1):=by unfold headI;rw [hmz,if_neg c2,if_pos c3]
  rw [run_err (by rw [e2];exact (by decide:(11:Int)≠0)),e2];exact err _ 11 rfl (by decide)
 rw [if_neg c3];have hk:=kind_head (by simpa using c3);by_cases c4:kOf zs=4
 ·rw [if_pos c4];have e2:headI m1=(11,m1):=by unfold headI;rw [hmz,if_neg c2,if_neg c3,if_neg (by omega)]
  rw [run_err (by rw [e2];exact (by decide:(11:Int)≠0)),e2];exact err _ 11 rfl (by decide)
 rw [if_neg c4];have e2:headI m1=(0,{ m1 with m:={ m1.m with k:=kOf zs,e:=eOf zs,s:=sOf zs,c:=cOf zs } }):=by unfold headI;rw [hmz,if_neg c2,if_neg c3,if_pos (by omega)]
 rw [run_ok (by rw [e2]),e2];simp only
 obtain ⟨m2,hm2⟩:∃m2:Pm,({ m1 with m:={ m1.m with k:=kOf zs,e:=eOf zs,s:=sOf zs,c:=cOf zs } }:Pm)=m2:=⟨_,rfl⟩
 rw [hm2];have hz2:m2.m.zs=zs∧m2.m.s=sOf zs∧m2.m.c=cOf zs:=by rw [←hm2];exact ⟨hmz,rfl,rfl⟩
 obtain ⟨a1,a2,a3⟩:=hz2;have hTok:∀s∈(k4_tabR zs (sOf zs) (cOf zs)).2,s.Ok:=(k4_tabR_ok hz (sOf_bd hz (by omega)).1).1;generalize hT:k4_tabR zs (sOf zs) (cOf zs)=T at hTok⊢;by_cases c5:T.1≠0
 ·rw [if_pos c5];have e3:segsI m2=(T.1,m2):=by unfold segsI;rw [a1,a2,a3,hT,if_pos c5]
  rw [run_err (by rw [e3];exact c5),e3];exact err _ T.1 rfl c5
 rw [if_neg c5];by_cases c6:checkS T.2 zs.length≠0
 ·rw [if_pos c6];have e3:segsI m2=(checkS T.2 zs.length,m2):=by unfold segsI;rw [a1,a2,a3,hT,if_neg c5,if_pos c6]
  rw [run_err (by rw [e3];exact c6),e3];exact err _ _ rfl c6
 rw [if_neg c6];by_cases c7:T.2.find? (kindB 1)=none
 ·rw [if_pos c7];have e3:segsI m2=(11,m2):=by unfold segsI;rw [a1,a2,a3,hT,if_neg c5,if_neg c6,if_pos c7]
  rw [run_err (by rw [e3];exact (by decide:(11:Int)≠0)),e3];exact err _ 11 rfl (by decide)
 rw [if_neg c7];have e3:segsI m2=(0,{ m2 with m:={ m2.m with sg:=T.2 } }):=by unfold segsI;rw [a1,a2,a3,hT,if_neg c5,if_neg c6,if_neg c7]
 rw [run_ok (by rw [e3]),e3];simp only
 have hm3:({ m2 with m:={ m2.m with sg:=T.2 } }:Pm)={ pm0 zs with m:=⟨kOf zs,eOf zs,sOf zs,cOf zs,T.2,.empty,[],[],[],[],zs⟩ }:=by rw [←hm2,←hm1];rfl
 rw [hm3];obtain ⟨m3,hm3'⟩:∃m3:Pm,({ pm0 zs with m:=⟨kOf zs,eOf zs,sOf zs,cOf zs,T.2,.empty,[],[],[],[],zs⟩ }:Pm)=m3:=⟨_,rfl⟩
 rw [hm3'];have hd:=dyn_eq m3 (by rw [←hm3'];exact hz) (by rw [←hm3']) (by rw [←hm3']) (by rw [←hm3']) (by rw [←hm3']) (by rw [←hm3']);rw [show m3.m.sg=T.2 by rw [←hm3'],show m3.m.zs=zs by rw [←hm3']] at hd;have hI:imaI zs (kOf zs) (eOf zs) (sOf zs) (cOf zs) T.2=if (entI T.2 zs).1≠0 then ((entI T.2 zs).1,im0) else (if heldI T.2 (entI T.2 zs).2.sy (entI T.2 zs).2.rl≠0 then (heldI T.2 (entI T.2 zs).2.sy (entI T.2 zs).2.rl,im0) else (0,⟨kOf zs,eOf zs,sOf zs,cOf zs,T.2,(entI T.2 zs).2.so,(entI T.2 zs).2.nd,(entI T.2 zs).2.nm,(entI T.2 zs).2.sy,(entI T.2 zs).2.rl,zs⟩)):=by
  unfold imaI entI;cases T.2.find? (kindB 2)<;>rfl
 rw [hI];have hrl:=ent_rl (L:=T.2) hz;generalize entI T.2 zs=N at hd hrl⊢;by_cases c8:N.1≠0
 ·rw [if_pos c8,run_err (by rw [hd.1];exact c8)];exact err _ N.1 hd.1 c8
 rw [if_neg c8];have c8':N.1=0:=by simpa using c8
 rw [run_ok (by rw [hd.1];exact c8')];have hm4:=hd.2 c8';generalize (dynI m3).2=m4 at hm4⊢;have hm4':m4.m=⟨kOf zs,eOf zs,sOf zs,cOf zs,T.2,N.2.so,N.2.nd,N.2.nm,N.2.sy,N.2.rl,zs⟩:=by rw [hm4,←hm3']
 obtain ⟨hc1,hc2⟩:=checks_eq (m:=m4) (L:=T.2) (n:=zs.length) (by rw [hm4']) hTok (by rw [hm4'];exact hrl) (by simpa using c6);rw [hc2,hc1,hm4'];simp only
 by_cases c9:heldI T.2 N.2.sy N.2.rl≠0
 ·rw [if_pos c9,if_neg c9]
 ·rw [if_neg c9,if_pos (by simpa using c9)];have:heldI T.2 N.2.sy N.2.rl=0:=by simpa using c9
  rw [this]
theorem iparse9_any (B:Nat) (a:Option Addr) (len cap:Nat) (zs:List Int) (w:World) (hb:Bys w B a len zs) (hB:B≤w.heap.size) (hcap:len≤cap) (hcm:(cap:Int)≤9223372036854775807) (hnil:a=none→cap=0) :
 Calls Tryz.prog 10 #[.slice a len cap] w (ParseOwn (parseI zs) w):=by
 have:=iparse0_any B a len cap zs w hb hB hcap hcm hnil;rw [parse_eq zs hb.2.1] at this;exact this
structure PlS (w wx:World) (gx:Nat) (C S:Array Value):Prop where
 box:Blk wx gx C 84
 spec:Blk wx w.heap.size S 47
 res:Blk wx (w.heap.size+1) #[.int .i64 0,.string ⟨#[]⟩,.slice none 0 0,.int .u64 0,.slice none 0 0,.slice none 0 0,.int .u64 0,.slice none 0 0,.int .u64 0,.slice none 0 0,.slice none 0 0,.slice none 0 0,.slice none 0 0,.slice none 0 0,.int .u64 0,.int .u64 0,.int .u64 0,.int .u64 0,.int .u64 0,.int .u64 0,.int .u64 0,.int .u64 0,.int .u64 0,.int .u64 0,.int .u64 0,.int .u64 0] 84
 bel:Below w.heap.size w wx
 lt:w.heap.size+1<gx
theorem PlS.later {w wx w':World} {gx:Nat} {C S:Array Value} (h:PlS w wx gx C S) (hb:Below wx.heap.size wx w'):PlS w w' gx C S:=⟨h.box.later hb,h.spec.later hb,h.res.later hb,h.bel.trans (hb.mono h.bel.size),h.lt⟩
theorem PlS.drew {w wx:World} {gx:Nat} {C S:Array Value} (h:PlS w wx gx C S):PlS w wx.drew gx C S:=h.later (Below.refl _ _).drew
theorem PlS.set {w wx:World} {gx:Nat} {C C' S:Array Value} (h:PlS w wx gx C S) (i:Nat) (v:Value) (hc:C.setIfInBounds i v=C'):PlS w (wx.setCell ⟨gx,i,none⟩ v) gx C' S:=by
 have hl:=h.lt;exact ⟨by rw [←hc];exact h.box.set i v,h.spec.setOther (by show w.heap.size≠gx;omega) v,h.res.setOther (by show w.heap.size+1≠gx;omega) v,h.bel.setCell (by show w.heap.size≤gx;omega) v,hl⟩
def PlanPost (V:Array Value) (w:World) (e:Ending) (w':World):Prop:=e=.returned (.agg V)∧Below w.heap.size w w'
theorem fr114 (y:Nat→Value):frameOf 114 y=#[y 0,y 1,y 2,y 3,y 4,y 5,y 6,y 7,y 8,y 9,y 10,y 11,y 12,y 13,y 14,y 15,y 16,y 17,y 18,y 19,y 20,y 21,y 22,y 23,y 24,y 25,y 26,y 27,y 28,y 29,y 30,y 31,y 32,y 33,y 34,y 35,y 36,y 37,y 38,y 39,y 40,y 41,y 42,y 43,y 44,y 45,y 46,y 47,y 48,y 49,y 50,y 51,y 52,y 53,y 54,y 55,y 56,y 57,y 58,y 59,y 60,y 61,y 62,y 63,y 64,y 65,y 66,y 67,y 68,y 69,y 70,y 71,y 72,y 73,y 74,y 75,y 76,y 77,y 78,y 79,y 80,y 81,y 82,y 83,y 84,y 85,y 86,y 87,y 88,y 89,y 90,y 91,y 92,y 93,y 94,y 95,y 96,y 97,y 98,y 99,y 100,y 101,y 102,y 103,y 104,y 105,y 106,y 107,y 108,y 109,y 110,y 111,y 112,y 113]:=rfl
theorem putBy_bound (N V:List Int):(putBy N V).length≤16*(N.length+8):=by
 unfold putBy;rw [entsB_len];unfold putEs sevenD;simp only [List.length_append,List.length_map,List.length_cons,List.length_nil];have:=List.length_filter_le (keepD V) (List.range 7);rw [List.length_range] at this;omega
theorem plan_8 (y:Nat→Value) (w wz:World) (gx:Nat) (k:Int) (so:ByteArray) (nda:Option Addr) (ndn ndc:Nat) (en:Int) (coa:Option Addr) (con coc:Nat) (daa:Option Addr) (dan dac:Nat) (bz:Int) (tla:Option Addr) (tln tlc:Nat) (tz:Int) (dfa:Option Addr) (dfn dfc:Nat) (fxa:Option Addr) (fxn fxc:Nat) (tba:Option Addr) (tbn tbc:Nat) (pda:Option Addr) (pdn pdc:Nat) (pna:Option Addr) (pnn pnc:Nat) (h3:y 3=.pointer (some ⟨w.heap.size,0,none⟩)) (h6:y 6=.pointer (some ⟨w.heap.size+1,0,none⟩)) (h8:y 8=.pointer (some ⟨gx,0,none⟩)) (v0 v1 v2 v3 v4 v5 v6 dy fr cp dp tp:Int) (b1:0≤v1∧v1≤1000000000) (b2:0≤v2∧v2≤1000000000) (b4:0≤v4∧v4≤1000000000) (b6:0≤v6∧v6≤1000000000) (lco:con≤1000000) (lda:dan≤1000000) (e3:v3=upI (v1+v2) 8) (e5:v5=v3+24*v4) (ef:fr=v5+v6) (ec:cp=upI fr 256) (ed:dp=upI (cp+con) 256) (et:tp=upI (dp+dan) 8) (hst:PlS w wz gx #[.int .i64 k,.string so,.slice nda ndn ndc,.int .u64 en,.slice coa con coc,.slice daa dan dac,.int .u64 bz,.slice tla tln tlc,.int .u64 tz,.slice dfa dfn dfc,.slice fxa fxn fxc,.slice tba tbn tbc,.slice pda pdn pdc,.slice pna pnn pnc,.int .u64 v0,.int .u64 v1,.int .u64 v2,.int .u64 0,.int .u64 v4,.int .u64 0,.int .u64 v6,.int .u64 dy,.int .u64 0,.int .u64 0,.int .u64 0,.int .u64 0] #[.int .i64 k,.string so,.slice nda ndn ndc,.int .u64 en,.slice coa con coc,.slice daa dan dac,.int .u64 bz,.slice tla tln tlc,.int .u64 tz,.slice dfa dfn dfc,.slice fxa fxn fxc]) :
 Code.wp Tryz.prog (restAt 8 (Tryz.f31.body.getD .skip)) (bodyPost Tryz.prog Tryz.f31 (PlanPost #[.int .i64 k,.string so,.slice nda ndn ndc,.int .u64 en,.slice coa con coc,.slice daa dan dac,.int .u64 bz,.slice tla tln tlc,.int .u64 tz,.slice dfa dfn dfc,.slice fxa fxn fxc,.slice tba tbn tbc,.slice pda pdn pdc,.slice pna pnn pnc,.int .u64 v0,.int .u64 v1,.int .u64 v2,.int .u64 v3,.int .u64 v4,.int .u64 v5,.int .u64 v6,.int .u64 dy,.int .u64 fr,.int .u64 cp,.int .u64 dp,.int .u64 tp] w)) ⟨frameOf 114 y,[]⟩ wz:=by
 rw [fr114,h3,h6,h8];clear h3 h6 h8;conv=>arg 2;whnf
 obtain ⟨b10,b11⟩:=b1;obtain ⟨b20,b21⟩:=b2;obtain ⟨b40,b41⟩:=b4;obtain ⟨b60,b61⟩:=b6;have b30:0≤v3∧v3≤3000000000:=by rw [e3];unfold upI;omega
 obtain ⟨b30,b31⟩:=b30;have b50:0≤v5∧v5≤30000000000:=by omega
 obtain ⟨b50,b51⟩:=b50;have bf0:0≤fr∧fr≤40000000000:=by omega
 obtain ⟨bf0,bf1⟩:=bf0;have bc0:0≤cp∧cp≤50000000000:=by rw [ec];unfold upI;omega
 obtain ⟨bc0,bc1⟩:=bc0;have bd0:0≤dp∧dp≤60000000000:=by rw [ed];unfold upI;omega
 obtain ⟨bd0,bd1⟩:=bd0;have lcoi:(con:Int)≤1000000:=by omega
 have ldai:(dan:Int)≤1000000:=by omega
 have HU3:Hid (∀w1,Calls Tryz.prog 69 #[.int .u64 (v1+v2),.int .u64 8] w1 fun r w'=>r=.returned (.int .u64 v3)∧w1=w'):=Lib.hid (fun w1=>by rw [e3];exact up9_any _ 8 w1 (by omega) (by omega) (.inl rfl));have HUC:Hid (∀w1,Calls Tryz.prog 69 #[.int .u64 fr,.int .u64 256] w1 fun r w'=>r=.returned (.int .u64 cp)∧w1=w'):=Lib.hid (fun w1=>by rw [ec];exact up9_any _ 256 w1 (by omega) (by omega) (.inr rfl));have HUD:Hid (∀w1,Calls Tryz.prog 69 #[.int .u64 (cp+con),.int .u64 256] w1 fun r w'=>r=.returned (.int .u64 dp)∧w1=w'):=Lib.hid (fun w1=>by rw [ed];exact up9_any _ 256 w1 (by omega) (by omega) (.inr rfl));have HUT:Hid (∀w1,Calls Tryz.prog 69 #[.int .u64 (dp+dan),.int .u64 8] w1 fun r w'=>r=.returned (.int .u64 tp)∧w1=w'):=Lib.hid (fun w1=>by rw [et];exact up9_any _ 8 w1 (by omega) (by omega) (.inl rfl));have HE5:Hid (v3+24*v4=v5):=Lib.hid e5.symm;have HEF:Hid (v5+v6=fr):=Lib.hid ef.symm;clear e3 e5 ef ec ed et lco lda;have HST:=Lib.hid hst;have hlt:=hst.lt;clear hst;have q15:wz.cell? ⟨gx,15,none⟩=some (.int .u64 v1):=HST.out.box.cell 15;have q16:wz.cell? ⟨gx,16,none⟩=some (.int .u64 v2):=HST.out.box.cell 16;go_wp2_with fail;refine (HU3.out _).mono ?_;rintro r w1 ⟨rfl,rfl⟩;clear HU3 q15 q16;have q17:wz.cell? ⟨gx,17,none⟩=some (.int .u64 0):=HST.out.box.cell 17;have q18:wz.cell? ⟨gx,18,none⟩=some (.int .u64 v4):=HST.out.box.cell 18;have q19:wz.cell? ⟨gx,19,none⟩=some (.int .u64 0):=HST.out.box.cell 19;have q20:wz.cell? ⟨gx,20,none⟩=some (.int .u64 v6):=HST.out.box.cell 20;have q22:wz.cell? ⟨gx,22,none⟩=some (.int .u64 0):=HST.out.box.cell 22;have f17:wz.frozen? ⟨gx,17,none⟩=false:=HST.out.box.frozen 17;have f19:wz.frozen? ⟨gx,19,none⟩=false:=HST.out.box.frozen 19;have f22:wz.frozen? ⟨gx,22,none⟩=false:=HST.out.box.frozen 22;go_wp2_with fail;rw [HE5.out,HEF.out];have hst:=(((HST.out.set 17 (.int .u64 v3) rfl).set 19 (.int .u64 v5) rfl).set 22 (.int .u64 fr) rfl:PlS w _ gx #[.int .i64 k,.string so,.slice nda ndn ndc,.int .u64 en,.slice coa con coc,.slice daa dan dac,.int .u64 bz,.slice tla tln tlc,.int .u64 tz,.slice dfa dfn dfc,.slice fxa fxn fxc,.slice tba tbn tbc,.slice pda pdn pdc,.slice pna pnn pnc,.int .u64 v0,.int .u64 v1,.int .u64 v2,.int .u64 v3,.int .u64 v4,.int .u64 v5,.int .u64 v6,.int .u64 dy,.int .u64 fr,.int .u64 0,.int .u64 0,.int .u64 0] #[.int .i64 k,.string so,.slice nda ndn ndc,.int .u64 en,.slice coa con coc,.slice daa dan dac,.int .u64 bz,.slice tla tln tlc,.int .u64 tz,.slice dfa dfn dfc,.slice fxa fxn fxc])
 obtain ⟨w2,hw⟩:∃q,((wz.setCell ⟨gx,17,none⟩ (.int .u64 v3)).setCell ⟨gx,19,none⟩ (.int .u64 v5)).setCell ⟨gx,22,none⟩ (.int .u64 fr)=q:=⟨_,rfl⟩
 rw [hw] at hst⊢;have HST2:=Lib.hid hst;clear hw hst;refine (HUC.out _).mono ?_;rintro r w3 ⟨rfl,rfl⟩;clear HUC q17 q18 q19 q20 q22 f17 f19 f22 HST HE5 HEF;have q23:w2.cell? ⟨gx,23,none⟩=some (.int .u64 0):=HST2.out.box.cell 23;have f23:w2.frozen? ⟨gx,23,none⟩=false:=HST2.out.box.frozen 23;have s4:w2.cell? ⟨w.heap.size,4,none⟩=some (.slice coa con coc):=HST2.out.spec.cell 4;have hne:w.heap.size≠gx:=by omega
 go_wp2_with fail;have hst:=(HST2.out.set 23 (.int .u64 cp) rfl:PlS w _ gx #[.int .i64 k,.string so,.slice nda ndn ndc,.int .u64 en,.slice coa con coc,.slice daa dan dac,.int .u64 bz,.slice tla tln tlc,.int .u64 tz,.slice dfa dfn dfc,.slice fxa fxn fxc,.slice tba tbn tbc,.slice pda pdn pdc,.slice pna pnn pnc,.int .u64 v0,.int .u64 v1,.int .u64 v2,.int .u64 v3,.int .u64 v4,.int .u64 v5,.int .u64 v6,.int .u64 dy,.int .u64 fr,.int .u64 cp,.int .u64 0,.int .u64 0] #[.int .i64 k,.string so,.slice nda ndn ndc,.int .u64 en,.slice coa con coc,.slice daa dan dac,.int .u64 bz,.slice tla tln tlc,.int .u64 tz,.slice dfa dfn dfc,.slice fxa fxn fxc])
 obtain ⟨w4,hw⟩:∃q,w2.setCell ⟨gx,23,none⟩ (.int .u64 cp)=q:=⟨_,rfl⟩
 rw [hw] at hst⊢;have HST4:=Lib.hid hst;clear hw hst;refine (HUD.out _).mono ?_;rintro r w5 ⟨rfl,rfl⟩;clear HUD q23 f23 s4 HST2;have q24:w4.cell? ⟨gx,24,none⟩=some (.int .u64 0):=HST4.out.box.cell 24;have f24:w4.frozen? ⟨gx,24,none⟩=false:=HST4.out.box.frozen 24;have s5:w4.cell? ⟨w.heap.size,5,none⟩=some (.slice daa dan dac):=HST4.out.spec.cell 5;go_wp2_with fail;have hst:=(HST4.out.set 24 (.int .u64 dp) rfl:PlS w _ gx #[.int .i64 k,.string so,.slice nda ndn ndc,.int .u64 en,.slice coa con coc,.slice daa dan dac,.int .u64 bz,.slice tla tln tlc,.int .u64 tz,.slice dfa dfn dfc,.slice fxa fxn fxc,.slice tba tbn tbc,.slice pda pdn pdc,.slice pna pnn pnc,.int .u64 v0,.int .u64 v1,.int .u64 v2,.int .u64 v3,.int .u64 v4,.int .u64 v5,.int .u64 v6,.int .u64 dy,.int .u64 fr,.int .u64 cp,.int .u64 dp,.int .u64 0] #[.int .i64 k,.string so,.slice nda ndn ndc,.int .u64 en,.slice coa con coc,.slice daa dan dac,.int .u64 bz,.slice tla tln tlc,.int .u64 tz,.slice dfa dfn dfc,.slice fxa fxn fxc])
 obtain ⟨w6,hw⟩:∃q,w4.setCell ⟨gx,24,none⟩ (.int .u64 dp)=q:=⟨_,rfl⟩
 rw [hw] at hst⊢;have HST6:=Lib.hid hst;clear hw hst;refine (HUT.out _).mono ?_;rintro r w7 ⟨rfl,rfl⟩;clear HUT q24 f24 s5 HST4;have q25:w6.cell? ⟨gx,25,none⟩=some (.int .u64 0):=HST6.out.box.cell 25;have f25:w6.frozen? ⟨gx,25,none⟩=false:=HST6.out.box.frozen 25;have HBX:Hid (Blk (w6.setCell ⟨gx,25,none⟩ (.int .u64 tp)) gx #[.int .i64 k,.string so,.slice nda ndn ndc,.int .u64 en,.slice coa con coc,.slice daa dan dac,.int .u64 bz,.slice tla tln tlc,.int .u64 tz,.slice dfa dfn dfc,.slice fxa fxn fxc,.slice tba tbn tbc,.slice pda pdn pdc,.slice pna pnn pnc,.int .u64 v0,.int .u64 v1,.int .u64 v2,.int .u64 v3,.int .u64 v4,.int .u64 v5,.int .u64 v6,.int .u64 dy,.int .u64 fr,.int .u64 cp,.int .u64 dp,.int .u64 tp] 84):=Lib.hid (HST6.out.set 25 (.int .u64 tp) (C':=#[.int .i64 k,.string so,.slice nda ndn ndc,.int .u64 en,.slice coa con coc,.slice daa dan dac,.int .u64 bz,.slice tla tln tlc,.int .u64 tz,.slice dfa dfn dfc,.slice fxa fxn fxc,.slice tba tbn tbc,.slice pda pdn pdc,.slice pna pnn pnc,.int .u64 v0,.int .u64 v1,.int .u64 v2,.int .u64 v3,.int .u64 v4,.int .u64 v5,.int .u64 v6,.int .u64 dy,.int .u64 fr,.int .u64 cp,.int .u64 dp,.int .u64 tp]) rfl).box;have HRS:Hid (Blk (w6.setCell ⟨gx,25,none⟩ (.int .u64 tp)) (w.heap.size+1) #[.int .i64 0,.string ⟨#[]⟩,.slice none 0 0,.int .u64 0,.slice none 0 0,.slice none 0 0,.int .u64 0,.slice none 0 0,.int .u64 0,.slice none 0 0,.slice none 0 0,.slice none 0 0,.slice none 0 0,.slice none 0 0,.int .u64 0,.int .u64 0,.int .u64 0,.int .u64 0,.int .u64 0,.int .u64 0,.int .u64 0,.int .u64 0,.int .u64 0,.int .u64 0,.int .u64 0,.int .u64 0] 84):=Lib.hid (HST6.out.set 25 (.int .u64 tp) (C':=#[.int .i64 k,.string so,.slice nda ndn ndc,.int .u64 en,.slice coa con coc,.slice daa dan dac,.int .u64 bz,.slice tla tln tlc,.int .u64 tz,.slice dfa dfn dfc,.slice fxa fxn fxc,.slice tba tbn tbc,.slice pda pdn pdc,.slice pna pnn pnc,.int .u64 v0,.int .u64 v1,.int .u64 v2,.int .u64 v3,.int .u64 v4,.int .u64 v5,.int .u64 v6,.int .u64 dy,.int .u64 fr,.int .u64 cp,.int .u64 dp,.int .u64 tp]) rfl).res;have HBL:Hid (Below w.heap.size w (w6.setCell ⟨gx,25,none⟩ (.int .u64 tp))):=Lib.hid (HST6.out.set 25 (.int .u64 tp) (C':=#[.int .i64 k,.string so,.slice nda ndn ndc,.int .u64 en,.slice coa con coc,.slice daa dan dac,.int .u64 bz,.slice tla tln tlc,.int .u64 tz,.slice dfa dfn dfc,.slice fxa fxn fxc,.slice tba tbn tbc,.slice pda pdn pdc,.slice pna pnn pnc,.int .u64 v0,.int .u64 v1,.int .u64 v2,.int .u64 v3,.int .u64 v4,.int .u64 v5,.int .u64 v6,.int .u64 dy,.int .u64 fr,.int .u64 cp,.int .u64 dp,.int .u64 tp]) rfl).bel;go_wp2_with (first | (refine wpList_load_row rfl 84 _ rfl gx rfl _ _ (0,0) _ HBX.out Tryz.underlying84 rfl (by kernel_rfl) ?_) | (refine wpList_store_row rfl 84 _ _ rfl (w.heap.size+1) #[.int .i64 k,.string so,.slice nda ndn ndc,.int .u64 en,.slice coa con coc,.slice daa dan dac,.int .u64 bz,.slice tla tln tlc,.int .u64 tz,.slice dfa dfn dfc,.slice fxa fxn fxc,.slice tba tbn tbc,.slice pda pdn pdc,.slice pna pnn pnc,.int .u64 v0,.int .u64 v1,.int .u64 v2,.int .u64 v3,.int .u64 v4,.int .u64 v5,.int .u64 v6,.int .u64 dy,.int .u64 fr,.int .u64 cp,.int .u64 dp,.int .u64 tp] rfl rfl 84 _ HRS.out (by kernel_rfl) rfl (by kernel_rfl) ?_));refine bodyPost_ret (v:=.agg #[.int .i64 k,.string so,.slice nda ndn ndc,.int .u64 en,.slice coa con coc,.slice daa dan dac,.int .u64 bz,.slice tla tln tlc,.int .u64 tz,.slice dfa dfn dfc,.slice fxa fxn fxc,.slice tba tbn tbc,.slice pda pdn pdc,.slice pna pnn pnc,.int .u64 v0,.int .u64 v1,.int .u64 v2,.int .u64 v3,.int .u64 v4,.int .u64 v5,.int .u64 v6,.int .u64 dy,.int .u64 fr,.int .u64 cp,.int .u64 dp,.int .u64 tp]) ?_ rfl ?_
 ·exact results_cell_row Tryz.results31 _ _ (w.heap.size+1) 84 #[.int .i64 k,.string so,.slice nda ndn ndc,.int .u64 en,.slice coa con coc,.slice daa dan dac,.int .u64 bz,.slice tla tln tlc,.int .u64 tz,.slice dfa dfn dfc,.slice fxa fxn fxc,.slice tba tbn tbc,.slice pda pdn pdc,.slice pna pnn pnc,.int .u64 v0,.int .u64 v1,.int .u64 v2,.int .u64 v3,.int .u64 v4,.int .u64 v5,.int .u64 v6,.int .u64 dy,.int .u64 fr,.int .u64 cp,.int .u64 dp,.int .u64 tp] (0,0) _ rfl (setRow_heap _ _ _ _ _ _ HRS.out) Tryz.underlying84 rfl (by kernel_rfl)
 ·exact ⟨rfl,below_setRow HBL.out (Nat.le_succ _) _⟩
theorem plan_8x (x:List Value) (hx:x.length=114) (w wz:World) (gx:Nat) (k:Int) (so:ByteArray) (nda:Option Addr) (ndn ndc:Nat) (en:Int) (coa:Option Addr) (con coc:Nat) (daa:Option Addr) (dan dac:Nat) (bz:Int) (tla:Option Addr) (tln tlc:Nat) (tz:Int) (dfa:Option Addr) (dfn dfc:Nat) (fxa:Option Addr) (fxn fxc:Nat) (tba:Option Addr) (tbn tbc:Nat) (pda:Option Addr) (pdn pdc:Nat) (pna:Option Addr) (pnn pnc:Nat) (h3:x.getD 3 undef=.pointer (some ⟨w.heap.size,0,none⟩)) (h6:x.getD 6 undef=.pointer (some ⟨w.heap.size+1,0,none⟩)) (h8:x.getD 8 undef=.pointer (some ⟨gx,0,none⟩)) (v0 v1 v2 v3 v4 v5 v6 dy fr cp dp tp:Int) (b1:0≤v1∧v1≤1000000000) (b2:0≤v2∧v2≤1000000000) (b4:0≤v4∧v4≤1000000000) (b6:0≤v6∧v6≤1000000000) (lco:con≤1000000) (lda:dan≤1000000) (e3:v3=upI (v1+v2) 8) (e5:v5=v3+24*v4) (ef:fr=v5+v6) (ec:cp=upI fr 256) (ed:dp=upI (cp+con) 256) (et:tp=upI (dp+dan) 8) (hst:PlS w wz gx #[.int .i64 k,.string so,.slice nda ndn ndc,.int .u64 en,.slice coa con coc,.slice daa dan dac,.int .u64 bz,.slice tla tln tlc,.int .u64 tz,.slice dfa dfn dfc,.slice fxa fxn fxc,.slice tba tbn tbc,.slice pda pdn pdc,.slice pna pnn pnc,.int .u64 v0,.int .u64 v1,.int .u64 v2,.int .u64 0,.int .u64 v4,.int .u64 0,.int .u64 v6,.int .u64 dy,.int .u64 0,.int .u64 0,.int .u64 0,.int .u64 0] #[.int .i64 k,.string so,.slice nda ndn ndc,.int .u64 en,.slice coa con coc,.slice daa dan dac,.int .u64 bz,.slice tla tln tlc,.int .u64 tz,.slice dfa dfn dfc,.slice fxa fxn fxc]) :
 Code.wp Tryz.prog (restAt 8 (Tryz.f31.body.getD .skip)) (bodyPost Tryz.prog Tryz.f31 (PlanPost #[.int .i64 k,.string so,.slice nda ndn ndc,.int .u64 en,.slice coa con coc,.slice daa dan dac,.int .u64 bz,.slice tla tln tlc,.int .u64 tz,.slice dfa dfn dfc,.slice fxa fxn fxc,.slice tba tbn tbc,.slice pda pdn pdc,.slice pna pnn pnc,.int .u64 v0,.int .u64 v1,.int .u64 v2,.int .u64 v3,.int .u64 v4,.int .u64 v5,.int .u64 v6,.int .u64 dy,.int .u64 fr,.int .u64 cp,.int .u64 dp,.int .u64 tp] w)) ⟨x.toArray,[]⟩ wz:=by
 rw [frameOf_list x,hx];exact plan_8 (fun t=>x.getD t undef) w wz gx k so nda ndn ndc en coa con coc daa dan dac bz tla tln tlc tz dfa dfn dfc fxa fxn fxc tba tbn tbc pda pdn pdc pna pnn pnc h3 h6 h8 v0 v1 v2 v3 v4 v5 v6 dy fr cp dp tp b1 b2 b4 b6 lco lda e3 e5 ef ec ed et hst
end Go.Proofs.YtclgbdfkdbbinaaGreat
