/-
  What is proved here: Put of package vmem.
  Conditions: none but that the argument lies in memory.
-/
import Derived.Test.YtahjgbmhleiocaaVmPut0
import Derived.Test.YtahjgbmhleiocaaFWords
import Derived.Test.YtahjgbmhleiocaaFEnd
namespace Go.Proofs.Ytahjgbmhleiocaa
open Go.RowKit Go.WideMaps Go.Maps
set_option linter.unusedVariables false
set_option linter.unusedSimpArgs false

def Vp.pg (s : Vp) : Pg := ⟨s.a.toNat, s.pr, s.di, s.fi, s.of, s.bb.zs⟩
def okV (s : Vp) : Bool := validP s.a s.pr s.fi s.of s.bb.n
def badV (L : List Vp) (i : Nat) : Bool := !okV (L.getD i Vp.zero) || (decide (0 < i) && decide ((L.getD i Vp.zero).a ≤ (L.getD (i - 1) Vp.zero).a))
def putE (L : List Vp) : Int := if (List.range L.length).any (badV L) = true then 11 else if 512 < L.length then 13 else 0
theorem ins_last {M : List Pg} {p : Pg} (h : ∀ q ∈ M, q.a < p.a) : insP M p = M ++ [p] := by
  induction M with
  | nil => rfl
  | cons q r ih =>
    rw [insP, if_neg (by have := h q (by simp); omega), ih (fun x hx => h x (by simp [hx]))]; rfl
theorem StepG.noU {P : Program} {L : List Oper} {o : Oper} {n : Nat} {y : Nat → Value} {d : List Deferred} {w : World} {R : World → World → Prop} {F : Value → World → Prop} {g : Oper} {j t : Nat} {b : Bool} (hg : o.guard = some (j, b)) (hj : L[j]? = some g) (hd : g.dst = some t) (htn : t < n) (ht : y t = undef)
    (h : F undef w) : StepG P L o ⟨frameOf n y, d⟩ w R F :=
  ⟨fun hw => absurd hw (by
    have hx : (frameOf n y)[t]? = some undef := by rw [frameOf_get _ _ _ htn, ht]
    unfold Region.wanted yielded
    simp [hg, hj, hd, hx, undef]), fun _ => h⟩
theorem fr65 (y : Nat → Value) : frameOf 65 y = #[y 0, y 1, y 2, y 3, y 4, y 5, y 6, y 7, y 8, y 9, y 10, y 11, y 12, y 13, y 14, y 15, y 16, y 17, y 18, y 19, y 20, y 21, y 22, y 23, y 24, y 25, y 26, y 27, y 28, y 29, y 30, y 31, y 32, y 33, y 34, y 35, y 36, y 37, y 38, y 39, y 40, y 41, y 42, y 43, y 44, y 45, y 46, y 47, y 48, y 49, y 50, y 51, y 52, y 53, y 54, y 55, y 56, y 57, y 58, y 59, y 60, y 61, y 62, y 63, y 64] := rfl
structure PPut (W0 W1 : World) (b : Nat) (s : Vp) (Post : World → Prop) (L : Nat → Bool) (y : Nat → Value) (w : World) : Prop where
  at0 : L 17 = false → Vp.At w b 0 s
  k : L 16 = false → w = W0
  b : L 16 = true → L 17 = false → w = W1
  c : L 17 = true → Post w
theorem wp_box_eq {P : Program} {o : Oper} {a : Act} {w : World} {K : Act → World → Prop} {Q : Exit → Act → World → Prop} (t : TypeId) (x : Operand) (ho : o.op = .box t x) (V : Array Value) (hx : a.eval x = .agg V) (h : K (a.put o.dst (.pointer (some ⟨w.heap.size, 0, none⟩))) (w.alloc (.cells V t))) : o.wp P a w K Q := by
  unfold Oper.wp execOp
  simp [ho, hx, Instr.box, newVar, newRow, Value.cells, Sem.run_bind]
  exact h
theorem okV_pg {w : World} {B : Nat} {s : Vp} (h : s.Ok w B) (hv : okV s = true) : s.pg.Ok ∧ (s.pg.a : Int) = s.a := by
  unfold okV validP rangeP protP at hv
  simp only [Bool.and_eq_true, decide_eq_true_eq] at hv
  have ha := h.a
  have he : (s.pg.a : Int) = s.a := by show ((s.a.toNat : Nat) : Int) = _; omega
  refine ⟨⟨by omega, by omega, hv.1.1.2, h.fi, h.of, by show s.bb.zs.length = 256; rw [h.bb.bys.1]; exact hv.1.2, h.bb.bys.2.1⟩, he⟩
theorem okV_of {L : List Vp} {j : Nat} (h : badV L j = false) : okV (L.getD j Vp.zero) = true := by
  unfold badV at h
  rw [Bool.or_eq_false_iff] at h
  simpa using h.1
theorem rise {L : List Vp} {n : Nat} (h : ∀ j, j < n → badV L j = false) : ∀ k, k < n → ∀ j, j < k → (L.getD j Vp.zero).a < (L.getD k Vp.zero).a
  | 0, _, j, hj => absurd hj (by omega)
  | k + 1, hk, j, hj => by
    have h1 := h (k + 1) hk
    unfold badV at h1
    rw [Bool.or_eq_false_iff] at h1
    have h2 := h1.2
    simp only [Nat.zero_lt_succ, decide_true, Bool.true_and, decide_eq_false_iff_not, Nat.add_sub_cancel] at h2
    by_cases e : j = k
    · subst e; omega
    · have := rise h k (by omega) j (by omega)
      omega
def PutTail (w : World) (L : List Vp) (E : Int) (r : Ending) (w' : World) : Prop :=
  if E = 0 then ∃ S2, r = .returned (.tuple #[ptrV S2.g, .int .i64 0]) ∧ VAt w' S2 (L.map Vp.pg) L.length ∧ (∀ j, S2.own j → w.heap.size ≤ j) else r = .returned (.tuple #[.pointer none, .int .i64 E])
def PutPost (w : World) (L : List Vp) (r : Ending) (w' : World) : Prop := Below w.heap.size w w' ∧ PutTail w L (putE L) r w'
set_option maxHeartbeats 25600000 in
set_option maxRecDepth 100000 in
theorem Put_ok {w : World} {B : Nat} {a : Option Addr} {n c : Nat} {L : List Vp} (h : Vp.Sl w B a n L) (hB : B ≤ w.heap.size) (hn : n ≤ 1000000) (hbig : ∀ s ∈ L, s.bb.n ≤ 1099511627776) :
    Calls Try.prog 7 #[.slice a n c] w (PutPost w L) := by
  have HH := Lib.hid h
  have HB := Lib.hid hB
  have HL : Hid (L.length = n) := Lib.hid h.hl
  have HBIG := Lib.hid hbig
  unfold PutPost
  obtain ⟨E, hE⟩ : ∃ E, putE L = E := ⟨_, rfl⟩
  rw [hE]
  have HE := Lib.hid hE
  have hni : (n : Int) ≤ 1000000 := by omega
  clear hE h hB hbig
  go_enter Try.func7, Try.ntmps7
  go_wp2
  go_loopw [4, 5, 11] (fun _ _ i wr => ∃ k : Nat, k ≤ n ∧ i = .int .i64 k ∧ Hid (∀ j, j < k → badV L j = false) ∧ Hid (Below w.heap.size w wr)) (fun _ _ i _ => n - (intOf i).toNat)
  case atStart => exact ⟨0, Nat.zero_le _, by go_num, Lib.hid (fun j hj => absurd hj (by omega)), Lib.hid (Below.refl _ _)⟩
  case round =>
    obtain ⟨k, hk, rfl, HNO, HBW⟩ := hrel
    by_cases hlt : k < n
    · have hlti : (k : Int) < n := by omega
      obtain ⟨b, off, rfl, hbB, hcell⟩ := HH.out.hc (by omega)
      have hat := (hcell k hlt).below (HBW.out.mono HB.out) hbB
      have hok := (HH.out.okAt hlt)
      obtain ⟨s, hs⟩ : ∃ s, L.getD k Vp.zero = s := ⟨_, rfl⟩
      rw [hs] at hat hok
      have HS := Lib.hid hs
      have HOK := Lib.hid hok
      have hbw : b < wr.heap.size := Nat.lt_of_lt_of_le hbB (Nat.le_trans HB.out HBW.out.size)
      have HAT := Lib.hid hat
      have HCELL := Lib.hid hcell
      have HLT := Lib.hid hlt
      have HBB := Lib.hid hbw
      have HCB := Lib.hid hbB
      have hbd := hok.a
      have hod := hok.of
      have hVA := fun wx => valid_ok wx s.a s.pr s.of s.di s.fi s.bb.a s.bb.n s.bb.c hbd.1 hbd.2 hod.1 hod.2 (HBIG.out s (by rw [← hs]; exact Vp.getD_mem (by rw [HL.out]; exact hlt)))
      have HVA := Lib.hid hVA
      have q0 : wr.cell? ⟨b, off + k * 6, none⟩ = some (.int .u64 s.a) := hat.c0
      have q1 : wr.cell? ⟨b, off + k * 6 + 1, none⟩ = some (.int .i64 s.pr) := hat.c1
      have q2 : wr.cell? ⟨b, off + k * 6 + 2, none⟩ = some (.bool s.di) := hat.c2
      have q3 : wr.cell? ⟨b, off + k * 6 + 3, none⟩ = some (.string s.fi) := hat.c3
      have q4 : wr.cell? ⟨b, off + k * 6 + 4, none⟩ = some (.int .u64 s.of) := hat.c4
      have q5 : wr.cell? ⟨b, off + k * 6 + 5, none⟩ = some (.slice s.bb.a s.bb.n s.bb.c) := hat.c5
      obtain ⟨wq, hwq⟩ : ∃ wq, wr.alloc (.cells #[.int .u64 s.a, .int .i64 s.pr, .bool s.di, .string s.fi, .int .u64 s.of, .slice s.bb.a s.bb.n s.bb.c] 27) = wq := ⟨_, rfl⟩
      have BX : Hid (Blk wq wr.heap.size #[.int .u64 s.a, .int .i64 s.pr, .bool s.di, .string s.fi, .int .u64 s.of, .slice s.bb.a s.bb.n s.bb.c] 27) := Lib.hid (by rw [← hwq]; exact Blk.new _ _ _)
      have HQ : Hid (Below wr.heap.size wr wq) := Lib.hid (by rw [← hwq]; exact (Below.refl _ _).alloc (Nat.le_refl _) _)
      have HCS : Hid (∀ wx, Below wq.heap.size wq wx → wx.cell? ⟨wr.heap.size, 0, none⟩ = some (.int .u64 s.a) ∧ wx.cell? ⟨wr.heap.size, 1, none⟩ = some (.int .i64 s.pr) ∧ wx.cell? ⟨wr.heap.size, 2, none⟩ = some (.bool s.di) ∧ wx.cell? ⟨wr.heap.size, 3, none⟩ = some (.string s.fi) ∧ wx.cell? ⟨wr.heap.size, 4, none⟩ = some (.int .u64 s.of) ∧ wx.cell? ⟨wr.heap.size, 5, none⟩ = some (.slice s.bb.a s.bb.n s.bb.c)) := Lib.hid (fun wx hb => by
        have h1 := BX.out.later hb
        exact ⟨h1.cell 0, h1.cell 1, h1.cell 2, h1.cell 3, h1.cell 4, h1.cell 5⟩)
      clear hat hok hs hcell hVA hlt hk hbw hbd hod
      go_wp2
      try rw [hwq]
      obtain ⟨z0, z1, z2, z3, z4, z5⟩ := HCS.out wq (Below.refl _ _)
      clear hwq q0 q1 q2 q3 q4 q5
      clear z0 z1 z2 z3 z4 z5
      cases hv : okV s with
      | false =>
        have HV := Lib.hid hv
        have HE11 : Hid (E = 11) := Lib.hid (by
          rw [← HE.out]
          unfold putE
          rw [if_pos (List.any_eq_true.2 ⟨k, List.mem_range.2 (by rw [HL.out]; exact HLT.out), by unfold badV; rw [HS.out]; simp [HV.out]⟩)])
        unfold okV at hv
        rw [hv] at HVA
        clear hv
        refine wp_region_facts (by kernel_rfl) Stays Stays.refl Stays.trans 65 rfl [16, 17, 18, 19, 20, 21, 22, 23, 24, 25, 26, 27, 28, 29, 30, 31, 32, 33] (factsOf [Is (.agg #[.int .u64 s.a, .int .i64 s.pr, .bool s.di, .string s.fi, .int .u64 s.of, .slice s.bb.a s.bb.n s.bb.c]), Is (.bool false), Is (.bool true), Is (.bool true), Is (undef), Is (undef), Is (undef), Is (undef), Is (undef), Is (undef), Is (undef), Is (undef), Is (undef), Is (undef), Is (undef), Is (undef), Is (undef), Is (.bool true)]) (by kernel_rfl) (factsOf_mono (mono_cons (Is.mono _) (mono_cons (Is.mono _) (mono_cons (Is.mono _) (mono_cons (Is.mono _) (mono_cons (Is.mono _) (mono_cons (Is.mono _) (mono_cons (Is.mono _) (mono_cons (Is.mono _) (mono_cons (Is.mono _) (mono_cons (Is.mono _) (mono_cons (Is.mono _) (mono_cons (Is.mono _) (mono_cons (Is.mono _) (mono_cons (Is.mono _) (mono_cons (Is.mono _) (mono_cons (Is.mono _) (mono_cons (Is.mono _) (mono_cons (Is.mono _) mono_nil))))))))))))))))))) ?steps16 ?fin16
        case fin16 =>
          intro v w2 hb2 hF
          have hlast : v 17 = .bool true := hF 17 (by decide)
          have HQ5 : Hid (Below wq.heap.size wq w2) := Lib.hid ⟨hb2.os, hb2.tape, hb2.output, hb2.size, hb2.block⟩
          clear hb2 hF
          simp only [putAll, List.set_cons_succ, List.set_cons_zero, Nat.reduceAdd, hlast]
          go_wp2
          go_ret2
          exact ⟨HBW.out.trans ((HQ.out.trans (HQ5.out.mono HQ.out.size)).mono HBW.out.size), by unfold PutTail; rw [if_neg (by rw [HE11.out]; decide), HE11.out]; rfl⟩
        case steps16 =>
          refine ⟨?_, ?_, ?_, ?_, ?_, ?_, ?_, ?_, ?_, ?_, ?_, ?_, ?_, ?_, ?_, ?_, ?_, ?_, trivial⟩
          all_goals intro y w2 hb hy0 hp0
          all_goals have hy := Lib.hid hy0
          all_goals have hp := Lib.hid hp0
          all_goals have hst := Lib.hid hb
          all_goals clear hy0 hp0 hb
          · have e1 : y 5 = .pointer (some ⟨wr.heap.size, 0, none⟩) := hy.out 5 (by decide)
            have hq5 : Below wq.heap.size wq w2 := ⟨hst.out.os, hst.out.tape, hst.out.output, hst.out.size, hst.out.block⟩
            obtain ⟨c0, c1, c2, c3, c4, c5⟩ := HCS.out w2 hq5
            clear hq5
            refine StepG.plain rfl fun K Q hK => ?_
            have v1 := (eval_frame 65 y [] (t := 5) (by decide)).trans e1
            obtain ⟨A, hA⟩ : ∃ A, (⟨frameOf 65 y, []⟩ : Act) = A := ⟨_, rfl⟩
            rw [hA] at v1 hK ⊢
            clear hA hy hp
            simp only [Act.eval] at v1
            go_simp
            exact hK _ _ ⟨Stays.refl _, by first | rfl | simp [Is] | (simp [factsOf, Is]; done)⟩
          · have e1 : y 16 = .agg #[.int .u64 s.a, .int .i64 s.pr, .bool s.di, .string s.fi, .int .u64 s.of, .slice s.bb.a s.bb.n s.bb.c] := hp.out 0 (by decide)
            refine StepG.plain rfl fun K Q hK => ?_
            have v1 := (eval_frame 65 y [] (t := 16) (by decide)).trans e1
            obtain ⟨A, hA⟩ : ∃ A, (⟨frameOf 65 y, []⟩ : Act) = A := ⟨_, rfl⟩
            rw [hA] at v1 hK ⊢
            clear hA hy hp
            simp only [Act.eval] at v1
            go_simp
            go_at_call 26
            refine (HVA.out _).mono ?_
            rintro r w3 ⟨rfl, hb3⟩
            exact hK _ w3 ⟨hb3, rfl⟩
          · have e1 : y 17 = .bool false := hp.out 1 (by decide)
            refine StepG.plain rfl fun K Q hK => ?_
            have v1 := (eval_frame 65 y [] (t := 17) (by decide)).trans e1
            obtain ⟨A, hA⟩ : ∃ A, (⟨frameOf 65 y, []⟩ : Act) = A := ⟨_, rfl⟩
            rw [hA] at v1 hK ⊢
            clear hA hy hp
            simp only [Act.eval] at v1
            go_simp
            exact hK _ _ ⟨Stays.refl _, by first | rfl | simp [Is] | (simp [factsOf, Is]; done)⟩
          · have e1 : y 18 = .bool true := hp.out 2 (by decide)
            refine StepG.plain rfl fun K Q hK => ?_
            have v1 := (eval_frame 65 y [] (t := 18) (by decide)).trans e1
            obtain ⟨A, hA⟩ : ∃ A, (⟨frameOf 65 y, []⟩ : Act) = A := ⟨_, rfl⟩
            rw [hA] at v1 hK ⊢
            clear hA hy hp
            simp only [Act.eval] at v1
            go_simp
            exact hK _ _ ⟨Stays.refl _, by first | rfl | simp [Is] | (simp [factsOf, Is]; done)⟩
          · exact StepG.no (b := false) (c := true) (t := 19) rfl rfl rfl (by decide) (hp.out 3 (by decide)) (by decide) rfl
          · exact StepG.no (b := false) (c := true) (t := 19) rfl rfl rfl (by decide) (hp.out 3 (by decide)) (by decide) rfl
          · exact StepG.no (b := false) (c := true) (t := 19) rfl rfl rfl (by decide) (hp.out 3 (by decide)) (by decide) rfl
          · exact StepG.noU (t := 22) rfl rfl rfl (by decide) (hp.out 6 (by decide)) rfl
          · exact StepG.noU (t := 22) rfl rfl rfl (by decide) (hp.out 6 (by decide)) rfl
          · exact StepG.noU (t := 22) rfl rfl rfl (by decide) (hp.out 6 (by decide)) rfl
          · exact StepG.noU (t := 22) rfl rfl rfl (by decide) (hp.out 6 (by decide)) rfl
          · exact StepG.noU (t := 22) rfl rfl rfl (by decide) (hp.out 6 (by decide)) rfl
          · exact StepG.noU (t := 22) rfl rfl rfl (by decide) (hp.out 6 (by decide)) rfl
          · exact StepG.noU (t := 22) rfl rfl rfl (by decide) (hp.out 6 (by decide)) rfl
          · exact StepG.noU (t := 22) rfl rfl rfl (by decide) (hp.out 6 (by decide)) rfl
          · exact StepG.noU (t := 22) rfl rfl rfl (by decide) (hp.out 6 (by decide)) rfl
          · exact StepG.no (b := false) (c := true) (t := 19) rfl rfl rfl (by decide) (hp.out 3 (by decide)) (by decide) rfl
          · have e1 : y 19 = .bool true := hp.out 3 (by decide)
            have e2 : y 32 = undef := hp.out 16 (by decide)
            refine StepG.plain rfl fun K Q hK => ?_
            have v1 := (eval_frame 65 y [] (t := 19) (by decide)).trans e1
            have v2 := (eval_frame 65 y [] (t := 32) (by decide)).trans e2
            obtain ⟨A, hA⟩ : ∃ A, (⟨frameOf 65 y, []⟩ : Act) = A := ⟨_, rfl⟩
            rw [hA] at v1 v2 hK ⊢
            clear hA hy hp
            simp only [Act.eval] at v1 v2
            go_simp
            exact hK _ _ ⟨Stays.refl _, by first | rfl | simp [Is] | (simp [factsOf, Is]; done)⟩
      | true =>
        have HV := Lib.hid hv
        unfold okV at hv
        rw [hv] at HVA
        clear hv
        by_cases hk0 : k = 0
        · subst hk0
          have HNB : Hid (∀ j, j < 0 + 1 → badV L j = false) := Lib.hid (fun j hj => by
            by_cases e : j = 0
            · rw [e]; unfold badV; rw [HS.out]; simp [HV.out]
            · exact HNO.out j (by omega))
          refine wp_region_facts (by kernel_rfl) Stays Stays.refl Stays.trans 65 rfl [16, 17, 18, 19, 20, 21, 22, 23, 24, 25, 26, 27, 28, 29, 30, 31, 32, 33] (factsOf [Is (.agg #[.int .u64 s.a, .int .i64 s.pr, .bool s.di, .string s.fi, .int .u64 s.of, .slice s.bb.a s.bb.n s.bb.c]), Is (.bool true), Is (.bool false), Is (.bool false), Is (.int .i64 0), Is (.bool false), Is (.bool false), Is (undef), Is (undef), Is (undef), Is (undef), Is (undef), Is (undef), Is (undef), Is (undef), Is (undef), Is (.bool false), Is (.bool false)]) (by kernel_rfl) (factsOf_mono (mono_cons (Is.mono _) (mono_cons (Is.mono _) (mono_cons (Is.mono _) (mono_cons (Is.mono _) (mono_cons (Is.mono _) (mono_cons (Is.mono _) (mono_cons (Is.mono _) (mono_cons (Is.mono _) (mono_cons (Is.mono _) (mono_cons (Is.mono _) (mono_cons (Is.mono _) (mono_cons (Is.mono _) (mono_cons (Is.mono _) (mono_cons (Is.mono _) (mono_cons (Is.mono _) (mono_cons (Is.mono _) (mono_cons (Is.mono _) (mono_cons (Is.mono _) mono_nil))))))))))))))))))) ?steps16 ?fin16
          case fin16 =>
            intro v w2 hb2 hF
            have hlast : v 17 = .bool false := hF 17 (by decide)
            have HQ5 : Hid (Below wq.heap.size wq w2) := Lib.hid ⟨hb2.os, hb2.tape, hb2.output, hb2.size, hb2.block⟩
            clear hb2 hF
            simp only [putAll, List.set_cons_succ, List.set_cons_zero, Nat.reduceAdd, hlast]
            go_wp2
            go_roundw
            case rel => exact ⟨0 + 1, HLT.out, by go_num, HNB, Lib.hid (HBW.out.trans ((HQ.out.trans (HQ5.out.mono HQ.out.size)).mono HBW.out.size))⟩
            case measure => have := HLT.out; simp [intOf]; omega
          case steps16 =>
            refine ⟨?_, ?_, ?_, ?_, ?_, ?_, ?_, ?_, ?_, ?_, ?_, ?_, ?_, ?_, ?_, ?_, ?_, ?_, trivial⟩
            all_goals intro y w2 hb hy0 hp0
            all_goals have hy := Lib.hid hy0
            all_goals have hp := Lib.hid hp0
            all_goals have hst := Lib.hid hb
            all_goals clear hy0 hp0 hb
            · have e1 : y 5 = .pointer (some ⟨wr.heap.size, 0, none⟩) := hy.out 5 (by decide)
              have hq5 : Below wq.heap.size wq w2 := ⟨hst.out.os, hst.out.tape, hst.out.output, hst.out.size, hst.out.block⟩
              obtain ⟨c0, c1, c2, c3, c4, c5⟩ := HCS.out w2 hq5
              clear hq5
              refine StepG.plain rfl fun K Q hK => ?_
              have v1 := (eval_frame 65 y [] (t := 5) (by decide)).trans e1
              obtain ⟨A, hA⟩ : ∃ A, (⟨frameOf 65 y, []⟩ : Act) = A := ⟨_, rfl⟩
              rw [hA] at v1 hK ⊢
              clear hA hy hp
              simp only [Act.eval] at v1
              go_simp
              exact hK _ _ ⟨Stays.refl _, by first | rfl | simp [Is] | (simp [factsOf, Is]; done)⟩
            · have e1 : y 16 = .agg #[.int .u64 s.a, .int .i64 s.pr, .bool s.di, .string s.fi, .int .u64 s.of, .slice s.bb.a s.bb.n s.bb.c] := hp.out 0 (by decide)
              refine StepG.plain rfl fun K Q hK => ?_
              have v1 := (eval_frame 65 y [] (t := 16) (by decide)).trans e1
              obtain ⟨A, hA⟩ : ∃ A, (⟨frameOf 65 y, []⟩ : Act) = A := ⟨_, rfl⟩
              rw [hA] at v1 hK ⊢
              clear hA hy hp
              simp only [Act.eval] at v1
              go_simp
              go_at_call 26
              refine (HVA.out _).mono ?_
              rintro r w3 ⟨rfl, hb3⟩
              exact hK _ w3 ⟨hb3, rfl⟩
            · have e1 : y 17 = .bool true := hp.out 1 (by decide)
              refine StepG.plain rfl fun K Q hK => ?_
              have v1 := (eval_frame 65 y [] (t := 17) (by decide)).trans e1
              obtain ⟨A, hA⟩ : ∃ A, (⟨frameOf 65 y, []⟩ : Act) = A := ⟨_, rfl⟩
              rw [hA] at v1 hK ⊢
              clear hA hy hp
              simp only [Act.eval] at v1
              go_simp
              exact hK _ _ ⟨Stays.refl _, by first | rfl | simp [Is] | (simp [factsOf, Is]; done)⟩
            · have e1 : y 18 = .bool false := hp.out 2 (by decide)
              refine StepG.plain rfl fun K Q hK => ?_
              have v1 := (eval_frame 65 y [] (t := 18) (by decide)).trans e1
              obtain ⟨A, hA⟩ : ∃ A, (⟨frameOf 65 y, []⟩ : Act) = A := ⟨_, rfl⟩
              rw [hA] at v1 hK ⊢
              clear hA hy hp
              simp only [Act.eval] at v1
              go_simp
              exact hK _ _ ⟨Stays.refl _, by first | rfl | simp [Is] | (simp [factsOf, Is]; done)⟩
            · have e1 : y 4 = .int .i64 0 := hy.out 4 (by decide)
              refine StepG.yes (b := false) (t := 19) rfl rfl rfl (by decide) (hp.out 3 (by decide)) fun K Q hK => ?_
              have v1 := (eval_frame 65 y [] (t := 4) (by decide)).trans e1
              obtain ⟨A, hA⟩ : ∃ A, (⟨frameOf 65 y, []⟩ : Act) = A := ⟨_, rfl⟩
              rw [hA] at v1 hK ⊢
              clear hA hy hp
              simp only [Act.eval] at v1
              go_simp
              exact hK _ _ ⟨Stays.refl _, by first | rfl | simp [Is] | (simp [factsOf, Is]; done)⟩
            · have e1 : y 20 = .int .i64 0 := hp.out 4 (by decide)
              refine StepG.yes (b := false) (t := 19) rfl rfl rfl (by decide) (hp.out 3 (by decide)) fun K Q hK => ?_
              have v1 := (eval_frame 65 y [] (t := 20) (by decide)).trans e1
              obtain ⟨A, hA⟩ : ∃ A, (⟨frameOf 65 y, []⟩ : Act) = A := ⟨_, rfl⟩
              rw [hA] at v1 hK ⊢
              clear hA hy hp
              simp only [Act.eval] at v1
              go_simp
              exact hK _ _ ⟨Stays.refl _, by first | rfl | simp [Is] | (simp [factsOf, Is]; done)⟩
            · have e1 : y 21 = .bool false := hp.out 5 (by decide)
              refine StepG.yes (b := false) (t := 19) rfl rfl rfl (by decide) (hp.out 3 (by decide)) fun K Q hK => ?_
              have v1 := (eval_frame 65 y [] (t := 21) (by decide)).trans e1
              obtain ⟨A, hA⟩ : ∃ A, (⟨frameOf 65 y, []⟩ : Act) = A := ⟨_, rfl⟩
              rw [hA] at v1 hK ⊢
              clear hA hy hp
              simp only [Act.eval] at v1
              go_simp
              exact hK _ _ ⟨Stays.refl _, by first | rfl | simp [Is] | (simp [factsOf, Is]; done)⟩
            · exact StepG.no (b := true) (c := false) (t := 22) rfl rfl rfl (by decide) (hp.out 6 (by decide)) (by decide) rfl
            · exact StepG.no (b := true) (c := false) (t := 22) rfl rfl rfl (by decide) (hp.out 6 (by decide)) (by decide) rfl
            · exact StepG.no (b := true) (c := false) (t := 22) rfl rfl rfl (by decide) (hp.out 6 (by decide)) (by decide) rfl
            · exact StepG.no (b := true) (c := false) (t := 22) rfl rfl rfl (by decide) (hp.out 6 (by decide)) (by decide) rfl
            · exact StepG.no (b := true) (c := false) (t := 22) rfl rfl rfl (by decide) (hp.out 6 (by decide)) (by decide) rfl
            · exact StepG.no (b := true) (c := false) (t := 22) rfl rfl rfl (by decide) (hp.out 6 (by decide)) (by decide) rfl
            · exact StepG.no (b := true) (c := false) (t := 22) rfl rfl rfl (by decide) (hp.out 6 (by decide)) (by decide) rfl
            · exact StepG.no (b := true) (c := false) (t := 22) rfl rfl rfl (by decide) (hp.out 6 (by decide)) (by decide) rfl
            · exact StepG.no (b := true) (c := false) (t := 22) rfl rfl rfl (by decide) (hp.out 6 (by decide)) (by decide) rfl
            · have e1 : y 22 = .bool false := hp.out 6 (by decide)
              have e2 : y 31 = undef := hp.out 15 (by decide)
              refine StepG.yes (b := false) (t := 19) rfl rfl rfl (by decide) (hp.out 3 (by decide)) fun K Q hK => ?_
              have v1 := (eval_frame 65 y [] (t := 22) (by decide)).trans e1
              have v2 := (eval_frame 65 y [] (t := 31) (by decide)).trans e2
              obtain ⟨A, hA⟩ : ∃ A, (⟨frameOf 65 y, []⟩ : Act) = A := ⟨_, rfl⟩
              rw [hA] at v1 v2 hK ⊢
              clear hA hy hp
              simp only [Act.eval] at v1 v2
              go_simp
              exact hK _ _ ⟨Stays.refl _, by first | rfl | simp [Is] | (simp [factsOf, Is]; done)⟩
            · have e1 : y 19 = .bool false := hp.out 3 (by decide)
              have e2 : y 32 = .bool false := hp.out 16 (by decide)
              refine StepG.plain rfl fun K Q hK => ?_
              have v1 := (eval_frame 65 y [] (t := 19) (by decide)).trans e1
              have v2 := (eval_frame 65 y [] (t := 32) (by decide)).trans e2
              obtain ⟨A, hA⟩ : ∃ A, (⟨frameOf 65 y, []⟩ : Act) = A := ⟨_, rfl⟩
              rw [hA] at v1 v2 hK ⊢
              clear hA hy hp
              simp only [Act.eval] at v1 v2
              go_simp
              exact hK _ _ ⟨Stays.refl _, by first | rfl | simp [Is] | (simp [factsOf, Is]; done)⟩
        · obtain ⟨k', hk'⟩ : ∃ k', k = k' + 1 := ⟨k - 1, by omega⟩
          have HK0 : Hid ((0 : Int) < k) := Lib.hid (by omega)
          have HKP : Hid ((k : Int) - 1 = (k' : Int)) := Lib.hid (by omega)
          have HK1 : Hid ((k' : Int) < n) := Lib.hid (by have := HLT.out; omega)
          have HPR : Hid (∀ wx, Below wq.heap.size wq wx → wx.cell? ⟨b, off + k' * 6, none⟩ = some (.int .u64 (L.getD k' Vp.zero).a)) := Lib.hid (fun wx hb => by
            have h1 := (HCELL.out k' (by have := HLT.out; omega)).below (HBW.out.mono HB.out) HCB.out
            have h2 := h1.below (HQ.out.mono (Nat.le_trans HB.out HBW.out.size)) HCB.out
            exact (h2.below (hb.mono (Nat.le_trans (Nat.le_trans HB.out HBW.out.size) HQ.out.size)) HCB.out).c0)
          obtain ⟨s0, hs0⟩ : ∃ s0, L.getD k' Vp.zero = s0 := ⟨_, rfl⟩
          rw [hs0] at HPR
          have HS0 : Hid (L.getD (k - 1) Vp.zero = s0) := Lib.hid (by rw [hk']; exact hs0)
          have HKN : Hid (0 < k) := Lib.hid (by omega)
          have HWK : Hid (IntKind.i64.wrap (k' : Int) = (k' : Int)) := Lib.hid (by rw [IntKind.wrap_i64]; have := HK1.out; omega)
          clear hs0 hk' hk0
          by_cases hle : s.a ≤ s0.a
          · have HLE := Lib.hid hle
            have HE11 : Hid (E = 11) := Lib.hid (by
              rw [← HE.out]
              unfold putE
              rw [if_pos (List.any_eq_true.2 ⟨k, List.mem_range.2 (by rw [HL.out]; exact HLT.out), by unfold badV; rw [HS.out]; rw [HS0.out]; simp [HV.out, HLE.out, HKN.out]⟩)])
            clear hle
            refine wp_region_facts (by kernel_rfl) Stays Stays.refl Stays.trans 65 rfl [16, 17, 18, 19, 20, 21, 22, 23, 24, 25, 26, 27, 28, 29, 30, 31, 32, 33] (factsOf [Is (.agg #[.int .u64 s.a, .int .i64 s.pr, .bool s.di, .string s.fi, .int .u64 s.of, .slice s.bb.a s.bb.n s.bb.c]), Is (.bool true), Is (.bool false), Is (.bool false), Is (.int .i64 (k : Int)), Is (.bool true), Is (.bool true), Is (.pointer (some ⟨wr.heap.size, 0, none⟩)), Is (.int .u64 s.a), Is (.slice (some ⟨b, off, none⟩) n c), Is (.int .i64 (k : Int)), Is (.int .i64 (k' : Int)), Is (.pointer (some ⟨b, off + k' * 6, none⟩)), Is (.pointer (some ⟨b, off + k' * 6, none⟩)), Is (.int .u64 s0.a), Is (.bool true), Is (.bool true), Is (.bool true)]) (by kernel_rfl) (factsOf_mono (mono_cons (Is.mono _) (mono_cons (Is.mono _) (mono_cons (Is.mono _) (mono_cons (Is.mono _) (mono_cons (Is.mono _) (mono_cons (Is.mono _) (mono_cons (Is.mono _) (mono_cons (Is.mono _) (mono_cons (Is.mono _) (mono_cons (Is.mono _) (mono_cons (Is.mono _) (mono_cons (Is.mono _) (mono_cons (Is.mono _) (mono_cons (Is.mono _) (mono_cons (Is.mono _) (mono_cons (Is.mono _) (mono_cons (Is.mono _) (mono_cons (Is.mono _) mono_nil))))))))))))))))))) ?steps16 ?fin16
            case fin16 =>
              intro v w2 hb2 hF
              have hlast : v 17 = .bool true := hF 17 (by decide)
              have HQ5 : Hid (Below wq.heap.size wq w2) := Lib.hid ⟨hb2.os, hb2.tape, hb2.output, hb2.size, hb2.block⟩
              clear hb2 hF
              simp only [putAll, List.set_cons_succ, List.set_cons_zero, Nat.reduceAdd, hlast]
              go_wp2
              go_ret2
              exact ⟨HBW.out.trans ((HQ.out.trans (HQ5.out.mono HQ.out.size)).mono HBW.out.size), by unfold PutTail; rw [if_neg (by rw [HE11.out]; decide), HE11.out]; rfl⟩
            case steps16 =>
              refine ⟨?_, ?_, ?_, ?_, ?_, ?_, ?_, ?_, ?_, ?_, ?_, ?_, ?_, ?_, ?_, ?_, ?_, ?_, trivial⟩
              all_goals intro y w2 hb hy0 hp0
              all_goals have hy := Lib.hid hy0
              all_goals have hp := Lib.hid hp0
              all_goals have hst := Lib.hid hb
              all_goals clear hy0 hp0 hb
              · have e1 : y 5 = .pointer (some ⟨wr.heap.size, 0, none⟩) := hy.out 5 (by decide)
                have hq5 : Below wq.heap.size wq w2 := ⟨hst.out.os, hst.out.tape, hst.out.output, hst.out.size, hst.out.block⟩
                obtain ⟨c0, c1, c2, c3, c4, c5⟩ := HCS.out w2 hq5
                clear hq5
                refine StepG.plain rfl fun K Q hK => ?_
                have v1 := (eval_frame 65 y [] (t := 5) (by decide)).trans e1
                obtain ⟨A, hA⟩ : ∃ A, (⟨frameOf 65 y, []⟩ : Act) = A := ⟨_, rfl⟩
                rw [hA] at v1 hK ⊢
                clear hA hy hp
                simp only [Act.eval] at v1
                go_simp
                exact hK _ _ ⟨Stays.refl _, by first | rfl | simp [Is] | (simp [factsOf, Is]; done)⟩
              · have e1 : y 16 = .agg #[.int .u64 s.a, .int .i64 s.pr, .bool s.di, .string s.fi, .int .u64 s.of, .slice s.bb.a s.bb.n s.bb.c] := hp.out 0 (by decide)
                refine StepG.plain rfl fun K Q hK => ?_
                have v1 := (eval_frame 65 y [] (t := 16) (by decide)).trans e1
                obtain ⟨A, hA⟩ : ∃ A, (⟨frameOf 65 y, []⟩ : Act) = A := ⟨_, rfl⟩
                rw [hA] at v1 hK ⊢
                clear hA hy hp
                simp only [Act.eval] at v1
                go_simp
                go_at_call 26
                refine (HVA.out _).mono ?_
                rintro r w3 ⟨rfl, hb3⟩
                exact hK _ w3 ⟨hb3, rfl⟩
              · have e1 : y 17 = .bool true := hp.out 1 (by decide)
                refine StepG.plain rfl fun K Q hK => ?_
                have v1 := (eval_frame 65 y [] (t := 17) (by decide)).trans e1
                obtain ⟨A, hA⟩ : ∃ A, (⟨frameOf 65 y, []⟩ : Act) = A := ⟨_, rfl⟩
                rw [hA] at v1 hK ⊢
                clear hA hy hp
                simp only [Act.eval] at v1
                go_simp
                exact hK _ _ ⟨Stays.refl _, by first | rfl | simp [Is] | (simp [factsOf, Is]; done)⟩
              · have e1 : y 18 = .bool false := hp.out 2 (by decide)
                refine StepG.plain rfl fun K Q hK => ?_
                have v1 := (eval_frame 65 y [] (t := 18) (by decide)).trans e1
                obtain ⟨A, hA⟩ : ∃ A, (⟨frameOf 65 y, []⟩ : Act) = A := ⟨_, rfl⟩
                rw [hA] at v1 hK ⊢
                clear hA hy hp
                simp only [Act.eval] at v1
                go_simp
                exact hK _ _ ⟨Stays.refl _, by first | rfl | simp [Is] | (simp [factsOf, Is]; done)⟩
              · have e1 : y 4 = .int .i64 (k : Int) := hy.out 4 (by decide)
                refine StepG.yes (b := false) (t := 19) rfl rfl rfl (by decide) (hp.out 3 (by decide)) fun K Q hK => ?_
                have v1 := (eval_frame 65 y [] (t := 4) (by decide)).trans e1
                obtain ⟨A, hA⟩ : ∃ A, (⟨frameOf 65 y, []⟩ : Act) = A := ⟨_, rfl⟩
                rw [hA] at v1 hK ⊢
                clear hA hy hp
                simp only [Act.eval] at v1
                go_simp
                exact hK _ _ ⟨Stays.refl _, by first | rfl | simp [Is] | (simp [factsOf, Is]; done)⟩
              · have e1 : y 20 = .int .i64 (k : Int) := hp.out 4 (by decide)
                have hk0 := HK0.out
                refine StepG.yes (b := false) (t := 19) rfl rfl rfl (by decide) (hp.out 3 (by decide)) fun K Q hK => ?_
                have v1 := (eval_frame 65 y [] (t := 20) (by decide)).trans e1
                obtain ⟨A, hA⟩ : ∃ A, (⟨frameOf 65 y, []⟩ : Act) = A := ⟨_, rfl⟩
                rw [hA] at v1 hK ⊢
                clear hA hy hp
                simp only [Act.eval] at v1
                go_simp
                exact hK _ _ ⟨Stays.refl _, by show Value.bool (decide (0 < k)) = Value.bool true; rw [decide_eq_true HKN.out]⟩
              · have e1 : y 21 = .bool true := hp.out 5 (by decide)
                refine StepG.yes (b := false) (t := 19) rfl rfl rfl (by decide) (hp.out 3 (by decide)) fun K Q hK => ?_
                have v1 := (eval_frame 65 y [] (t := 21) (by decide)).trans e1
                obtain ⟨A, hA⟩ : ∃ A, (⟨frameOf 65 y, []⟩ : Act) = A := ⟨_, rfl⟩
                rw [hA] at v1 hK ⊢
                clear hA hy hp
                simp only [Act.eval] at v1
                go_simp
                exact hK _ _ ⟨Stays.refl _, by first | rfl | simp [Is] | (simp [factsOf, Is]; done)⟩
              · have e1 : y 5 = .pointer (some ⟨wr.heap.size, 0, none⟩) := hy.out 5 (by decide)
                refine StepG.yes (b := true) (t := 22) rfl rfl rfl (by decide) (hp.out 6 (by decide)) fun K Q hK => ?_
                have v1 := (eval_frame 65 y [] (t := 5) (by decide)).trans e1
                obtain ⟨A, hA⟩ : ∃ A, (⟨frameOf 65 y, []⟩ : Act) = A := ⟨_, rfl⟩
                rw [hA] at v1 hK ⊢
                clear hA hy hp
                simp only [Act.eval] at v1
                go_simp
                exact hK _ _ ⟨Stays.refl _, by first | rfl | simp [Is] | (simp [factsOf, Is]; done)⟩
              · have e1 : y 23 = .pointer (some ⟨wr.heap.size, 0, none⟩) := hp.out 7 (by decide)
                have hq5 : Below wq.heap.size wq w2 := ⟨hst.out.os, hst.out.tape, hst.out.output, hst.out.size, hst.out.block⟩
                obtain ⟨c0, c1, c2, c3, c4, c5⟩ := HCS.out w2 hq5
                clear hq5
                refine StepG.yes (b := true) (t := 22) rfl rfl rfl (by decide) (hp.out 6 (by decide)) fun K Q hK => ?_
                have v1 := (eval_frame 65 y [] (t := 23) (by decide)).trans e1
                obtain ⟨A, hA⟩ : ∃ A, (⟨frameOf 65 y, []⟩ : Act) = A := ⟨_, rfl⟩
                rw [hA] at v1 hK ⊢
                clear hA hy hp
                simp only [Act.eval] at v1
                go_simp
                exact hK _ _ ⟨Stays.refl _, by first | rfl | simp [Is] | (simp [factsOf, Is]; done)⟩
              · have e1 : y 0 = .slice (some ⟨b, off, none⟩) n c := hy.out 0 (by decide)
                refine StepG.yes (b := true) (t := 22) rfl rfl rfl (by decide) (hp.out 6 (by decide)) fun K Q hK => ?_
                have v1 := (eval_frame 65 y [] (t := 0) (by decide)).trans e1
                obtain ⟨A, hA⟩ : ∃ A, (⟨frameOf 65 y, []⟩ : Act) = A := ⟨_, rfl⟩
                rw [hA] at v1 hK ⊢
                clear hA hy hp
                simp only [Act.eval] at v1
                go_simp
                exact hK _ _ ⟨Stays.refl _, by first | rfl | simp [Is] | (simp [factsOf, Is]; done)⟩
              · have e1 : y 4 = .int .i64 (k : Int) := hy.out 4 (by decide)
                refine StepG.yes (b := true) (t := 22) rfl rfl rfl (by decide) (hp.out 6 (by decide)) fun K Q hK => ?_
                have v1 := (eval_frame 65 y [] (t := 4) (by decide)).trans e1
                obtain ⟨A, hA⟩ : ∃ A, (⟨frameOf 65 y, []⟩ : Act) = A := ⟨_, rfl⟩
                rw [hA] at v1 hK ⊢
                clear hA hy hp
                simp only [Act.eval] at v1
                go_simp
                exact hK _ _ ⟨Stays.refl _, by first | rfl | simp [Is] | (simp [factsOf, Is]; done)⟩
              · have e1 : y 26 = .int .i64 (k : Int) := hp.out 10 (by decide)
                have hkp := HKP.out
                have hk0 := HK0.out
                refine StepG.yes (b := true) (t := 22) rfl rfl rfl (by decide) (hp.out 6 (by decide)) fun K Q hK => ?_
                have v1 := (eval_frame 65 y [] (t := 26) (by decide)).trans e1
                obtain ⟨A, hA⟩ : ∃ A, (⟨frameOf 65 y, []⟩ : Act) = A := ⟨_, rfl⟩
                rw [hA] at v1 hK ⊢
                clear hA hy hp
                simp only [Act.eval] at v1
                go_simp
                exact hK _ _ ⟨Stays.refl _, by show Value.int .i64 (IntKind.i64.wrap (k' : Int)) = Value.int .i64 (k' : Int); rw [HWK.out]⟩
              · have e1 : y 25 = .slice (some ⟨b, off, none⟩) n c := hp.out 9 (by decide)
                have e2 : y 27 = .int .i64 (k' : Int) := hp.out 11 (by decide)
                have hk1 := HK1.out
                refine StepG.yes (b := true) (t := 22) rfl rfl rfl (by decide) (hp.out 6 (by decide)) fun K Q hK => ?_
                have v1 := (eval_frame 65 y [] (t := 25) (by decide)).trans e1
                have v2 := (eval_frame 65 y [] (t := 27) (by decide)).trans e2
                obtain ⟨A, hA⟩ : ∃ A, (⟨frameOf 65 y, []⟩ : Act) = A := ⟨_, rfl⟩
                rw [hA] at v1 v2 hK ⊢
                clear hA hy hp
                simp only [Act.eval] at v1 v2
                go_simp
                exact hK _ _ ⟨Stays.refl _, by first | rfl | simp [Is] | (simp [factsOf, Is]; done)⟩
              · have e1 : y 28 = .pointer (some ⟨b, off + k' * 6, none⟩) := hp.out 12 (by decide)
                refine StepG.yes (b := true) (t := 22) rfl rfl rfl (by decide) (hp.out 6 (by decide)) fun K Q hK => ?_
                have v1 := (eval_frame 65 y [] (t := 28) (by decide)).trans e1
                obtain ⟨A, hA⟩ : ∃ A, (⟨frameOf 65 y, []⟩ : Act) = A := ⟨_, rfl⟩
                rw [hA] at v1 hK ⊢
                clear hA hy hp
                simp only [Act.eval] at v1
                go_simp
                exact hK _ _ ⟨Stays.refl _, by first | rfl | simp [Is] | (simp [factsOf, Is]; done)⟩
              · have e1 : y 29 = .pointer (some ⟨b, off + k' * 6, none⟩) := hp.out 13 (by decide)
                have hq5 : Below wq.heap.size wq w2 := ⟨hst.out.os, hst.out.tape, hst.out.output, hst.out.size, hst.out.block⟩
                have cp := HPR.out w2 hq5
                clear hq5
                refine StepG.yes (b := true) (t := 22) rfl rfl rfl (by decide) (hp.out 6 (by decide)) fun K Q hK => ?_
                have v1 := (eval_frame 65 y [] (t := 29) (by decide)).trans e1
                obtain ⟨A, hA⟩ : ∃ A, (⟨frameOf 65 y, []⟩ : Act) = A := ⟨_, rfl⟩
                rw [hA] at v1 hK ⊢
                clear hA hy hp
                simp only [Act.eval] at v1
                go_simp
                exact hK _ _ ⟨Stays.refl _, by first | rfl | simp [Is] | (simp [factsOf, Is]; done)⟩
              · have e1 : y 24 = .int .u64 s.a := hp.out 8 (by decide)
                have e2 : y 30 = .int .u64 s0.a := hp.out 14 (by decide)
                have hle := HLE.out
                refine StepG.yes (b := true) (t := 22) rfl rfl rfl (by decide) (hp.out 6 (by decide)) fun K Q hK => ?_
                have v1 := (eval_frame 65 y [] (t := 24) (by decide)).trans e1
                have v2 := (eval_frame 65 y [] (t := 30) (by decide)).trans e2
                obtain ⟨A, hA⟩ : ∃ A, (⟨frameOf 65 y, []⟩ : Act) = A := ⟨_, rfl⟩
                rw [hA] at v1 v2 hK ⊢
                clear hA hy hp
                simp only [Act.eval] at v1 v2
                go_simp
                exact hK _ _ ⟨Stays.refl _, by first | rfl | simp [Is] | (simp [factsOf, Is]; done)⟩
              · have e1 : y 22 = .bool true := hp.out 6 (by decide)
                have e2 : y 31 = .bool true := hp.out 15 (by decide)
                refine StepG.yes (b := false) (t := 19) rfl rfl rfl (by decide) (hp.out 3 (by decide)) fun K Q hK => ?_
                have v1 := (eval_frame 65 y [] (t := 22) (by decide)).trans e1
                have v2 := (eval_frame 65 y [] (t := 31) (by decide)).trans e2
                obtain ⟨A, hA⟩ : ∃ A, (⟨frameOf 65 y, []⟩ : Act) = A := ⟨_, rfl⟩
                rw [hA] at v1 v2 hK ⊢
                clear hA hy hp
                simp only [Act.eval] at v1 v2
                go_simp
                exact hK _ _ ⟨Stays.refl _, by first | rfl | simp [Is] | (simp [factsOf, Is]; done)⟩
              · have e1 : y 19 = .bool false := hp.out 3 (by decide)
                have e2 : y 32 = .bool true := hp.out 16 (by decide)
                refine StepG.plain rfl fun K Q hK => ?_
                have v1 := (eval_frame 65 y [] (t := 19) (by decide)).trans e1
                have v2 := (eval_frame 65 y [] (t := 32) (by decide)).trans e2
                obtain ⟨A, hA⟩ : ∃ A, (⟨frameOf 65 y, []⟩ : Act) = A := ⟨_, rfl⟩
                rw [hA] at v1 v2 hK ⊢
                clear hA hy hp
                simp only [Act.eval] at v1 v2
                go_simp
                exact hK _ _ ⟨Stays.refl _, by first | rfl | simp [Is] | (simp [factsOf, Is]; done)⟩
          · have HLE := Lib.hid hle
            have HNB : Hid (∀ j, j < k + 1 → badV L j = false) := Lib.hid (fun j hj => by
              by_cases e : j = k
              · rw [e]; unfold badV; rw [HS.out]; rw [HS0.out]; simp [HV.out]; have := HLE.out; omega
              · exact HNO.out j (by omega))
            clear hle
            refine wp_region_facts (by kernel_rfl) Stays Stays.refl Stays.trans 65 rfl [16, 17, 18, 19, 20, 21, 22, 23, 24, 25, 26, 27, 28, 29, 30, 31, 32, 33] (factsOf [Is (.agg #[.int .u64 s.a, .int .i64 s.pr, .bool s.di, .string s.fi, .int .u64 s.of, .slice s.bb.a s.bb.n s.bb.c]), Is (.bool true), Is (.bool false), Is (.bool false), Is (.int .i64 (k : Int)), Is (.bool true), Is (.bool true), Is (.pointer (some ⟨wr.heap.size, 0, none⟩)), Is (.int .u64 s.a), Is (.slice (some ⟨b, off, none⟩) n c), Is (.int .i64 (k : Int)), Is (.int .i64 (k' : Int)), Is (.pointer (some ⟨b, off + k' * 6, none⟩)), Is (.pointer (some ⟨b, off + k' * 6, none⟩)), Is (.int .u64 s0.a), Is (.bool false), Is (.bool false), Is (.bool false)]) (by kernel_rfl) (factsOf_mono (mono_cons (Is.mono _) (mono_cons (Is.mono _) (mono_cons (Is.mono _) (mono_cons (Is.mono _) (mono_cons (Is.mono _) (mono_cons (Is.mono _) (mono_cons (Is.mono _) (mono_cons (Is.mono _) (mono_cons (Is.mono _) (mono_cons (Is.mono _) (mono_cons (Is.mono _) (mono_cons (Is.mono _) (mono_cons (Is.mono _) (mono_cons (Is.mono _) (mono_cons (Is.mono _) (mono_cons (Is.mono _) (mono_cons (Is.mono _) (mono_cons (Is.mono _) mono_nil))))))))))))))))))) ?steps16 ?fin16
            case fin16 =>
              intro v w2 hb2 hF
              have hlast : v 17 = .bool false := hF 17 (by decide)
              have HQ5 : Hid (Below wq.heap.size wq w2) := Lib.hid ⟨hb2.os, hb2.tape, hb2.output, hb2.size, hb2.block⟩
              clear hb2 hF
              simp only [putAll, List.set_cons_succ, List.set_cons_zero, Nat.reduceAdd, hlast]
              go_wp2
              go_roundw
              case rel => exact ⟨k + 1, HLT.out, by go_num, HNB, Lib.hid (HBW.out.trans ((HQ.out.trans (HQ5.out.mono HQ.out.size)).mono HBW.out.size))⟩
              case measure => have := HLT.out; simp [intOf]; omega
            case steps16 =>
              refine ⟨?_, ?_, ?_, ?_, ?_, ?_, ?_, ?_, ?_, ?_, ?_, ?_, ?_, ?_, ?_, ?_, ?_, ?_, trivial⟩
              all_goals intro y w2 hb hy0 hp0
              all_goals have hy := Lib.hid hy0
              all_goals have hp := Lib.hid hp0
              all_goals have hst := Lib.hid hb
              all_goals clear hy0 hp0 hb
              · have e1 : y 5 = .pointer (some ⟨wr.heap.size, 0, none⟩) := hy.out 5 (by decide)
                have hq5 : Below wq.heap.size wq w2 := ⟨hst.out.os, hst.out.tape, hst.out.output, hst.out.size, hst.out.block⟩
                obtain ⟨c0, c1, c2, c3, c4, c5⟩ := HCS.out w2 hq5
                clear hq5
                refine StepG.plain rfl fun K Q hK => ?_
                have v1 := (eval_frame 65 y [] (t := 5) (by decide)).trans e1
                obtain ⟨A, hA⟩ : ∃ A, (⟨frameOf 65 y, []⟩ : Act) = A := ⟨_, rfl⟩
                rw [hA] at v1 hK ⊢
                clear hA hy hp
                simp only [Act.eval] at v1
                go_simp
                exact hK _ _ ⟨Stays.refl _, by first | rfl | simp [Is] | (simp [factsOf, Is]; done)⟩
              · have e1 : y 16 = .agg #[.int .u64 s.a, .int .i64 s.pr, .bool s.di, .string s.fi, .int .u64 s.of, .slice s.bb.a s.bb.n s.bb.c] := hp.out 0 (by decide)
                refine StepG.plain rfl fun K Q hK => ?_
                have v1 := (eval_frame 65 y [] (t := 16) (by decide)).trans e1
                obtain ⟨A, hA⟩ : ∃ A, (⟨frameOf 65 y, []⟩ : Act) = A := ⟨_, rfl⟩
                rw [hA] at v1 hK ⊢
                clear hA hy hp
                simp only [Act.eval] at v1
                go_simp
                go_at_call 26
                refine (HVA.out _).mono ?_
                rintro r w3 ⟨rfl, hb3⟩
                exact hK _ w3 ⟨hb3, rfl⟩
              · have e1 : y 17 = .bool true := hp.out 1 (by decide)
                refine StepG.plain rfl fun K Q hK => ?_
                have v1 := (eval_frame 65 y [] (t := 17) (by decide)).trans e1
                obtain ⟨A, hA⟩ : ∃ A, (⟨frameOf 65 y, []⟩ : Act) = A := ⟨_, rfl⟩
                rw [hA] at v1 hK ⊢
                clear hA hy hp
                simp only [Act.eval] at v1
                go_simp
                exact hK _ _ ⟨Stays.refl _, by first | rfl | simp [Is] | (simp [factsOf, Is]; done)⟩
              · have e1 : y 18 = .bool false := hp.out 2 (by decide)
                refine StepG.plain rfl fun K Q hK => ?_
                have v1 := (eval_frame 65 y [] (t := 18) (by decide)).trans e1
                obtain ⟨A, hA⟩ : ∃ A, (⟨frameOf 65 y, []⟩ : Act) = A := ⟨_, rfl⟩
                rw [hA] at v1 hK ⊢
                clear hA hy hp
                simp only [Act.eval] at v1
                go_simp
                exact hK _ _ ⟨Stays.refl _, by first | rfl | simp [Is] | (simp [factsOf, Is]; done)⟩
              · have e1 : y 4 = .int .i64 (k : Int) := hy.out 4 (by decide)
                refine StepG.yes (b := false) (t := 19) rfl rfl rfl (by decide) (hp.out 3 (by decide)) fun K Q hK => ?_
                have v1 := (eval_frame 65 y [] (t := 4) (by decide)).trans e1
                obtain ⟨A, hA⟩ : ∃ A, (⟨frameOf 65 y, []⟩ : Act) = A := ⟨_, rfl⟩
                rw [hA] at v1 hK ⊢
                clear hA hy hp
                simp only [Act.eval] at v1
                go_simp
                exact hK _ _ ⟨Stays.refl _, by first | rfl | simp [Is] | (simp [factsOf, Is]; done)⟩
              · have e1 : y 20 = .int .i64 (k : Int) := hp.out 4 (by decide)
                have hk0 := HK0.out
                refine StepG.yes (b := false) (t := 19) rfl rfl rfl (by decide) (hp.out 3 (by decide)) fun K Q hK => ?_
                have v1 := (eval_frame 65 y [] (t := 20) (by decide)).trans e1
                obtain ⟨A, hA⟩ : ∃ A, (⟨frameOf 65 y, []⟩ : Act) = A := ⟨_, rfl⟩
                rw [hA] at v1 hK ⊢
                clear hA hy hp
                simp only [Act.eval] at v1
                go_simp
                exact hK _ _ ⟨Stays.refl _, by show Value.bool (decide (0 < k)) = Value.bool true; rw [decide_eq_true HKN.out]⟩
              · have e1 : y 21 = .bool true := hp.out 5 (by decide)
                refine StepG.yes (b := false) (t := 19) rfl rfl rfl (by decide) (hp.out 3 (by decide)) fun K Q hK => ?_
                have v1 := (eval_frame 65 y [] (t := 21) (by decide)).trans e1
                obtain ⟨A, hA⟩ : ∃ A, (⟨frameOf 65 y, []⟩ : Act) = A := ⟨_, rfl⟩
                rw [hA] at v1 hK ⊢
                clear hA hy hp
                simp only [Act.eval] at v1
                go_simp
                exact hK _ _ ⟨Stays.refl _, by first | rfl | simp [Is] | (simp [factsOf, Is]; done)⟩
              · have e1 : y 5 = .pointer (some ⟨wr.heap.size, 0, none⟩) := hy.out 5 (by decide)
                refine StepG.yes (b := true) (t := 22) rfl rfl rfl (by decide) (hp.out 6 (by decide)) fun K Q hK => ?_
                have v1 := (eval_frame 65 y [] (t := 5) (by decide)).trans e1
                obtain ⟨A, hA⟩ : ∃ A, (⟨frameOf 65 y, []⟩ : Act) = A := ⟨_, rfl⟩
                rw [hA] at v1 hK ⊢
                clear hA hy hp
                simp only [Act.eval] at v1
                go_simp
                exact hK _ _ ⟨Stays.refl _, by first | rfl | simp [Is] | (simp [factsOf, Is]; done)⟩
              · have e1 : y 23 = .pointer (some ⟨wr.heap.size, 0, none⟩) := hp.out 7 (by decide)
                have hq5 : Below wq.heap.size wq w2 := ⟨hst.out.os, hst.out.tape, hst.out.output, hst.out.size, hst.out.block⟩
                obtain ⟨c0, c1, c2, c3, c4, c5⟩ := HCS.out w2 hq5
                clear hq5
                refine StepG.yes (b := true) (t := 22) rfl rfl rfl (by decide) (hp.out 6 (by decide)) fun K Q hK => ?_
                have v1 := (eval_frame 65 y [] (t := 23) (by decide)).trans e1
                obtain ⟨A, hA⟩ : ∃ A, (⟨frameOf 65 y, []⟩ : Act) = A := ⟨_, rfl⟩
                rw [hA] at v1 hK ⊢
                clear hA hy hp
                simp only [Act.eval] at v1
                go_simp
                exact hK _ _ ⟨Stays.refl _, by first | rfl | simp [Is] | (simp [factsOf, Is]; done)⟩
              · have e1 : y 0 = .slice (some ⟨b, off, none⟩) n c := hy.out 0 (by decide)
                refine StepG.yes (b := true) (t := 22) rfl rfl rfl (by decide) (hp.out 6 (by decide)) fun K Q hK => ?_
                have v1 := (eval_frame 65 y [] (t := 0) (by decide)).trans e1
                obtain ⟨A, hA⟩ : ∃ A, (⟨frameOf 65 y, []⟩ : Act) = A := ⟨_, rfl⟩
                rw [hA] at v1 hK ⊢
                clear hA hy hp
                simp only [Act.eval] at v1
                go_simp
                exact hK _ _ ⟨Stays.refl _, by first | rfl | simp [Is] | (simp [factsOf, Is]; done)⟩
              · have e1 : y 4 = .int .i64 (k : Int) := hy.out 4 (by decide)
                refine StepG.yes (b := true) (t := 22) rfl rfl rfl (by decide) (hp.out 6 (by decide)) fun K Q hK => ?_
                have v1 := (eval_frame 65 y [] (t := 4) (by decide)).trans e1
                obtain ⟨A, hA⟩ : ∃ A, (⟨frameOf 65 y, []⟩ : Act) = A := ⟨_, rfl⟩
                rw [hA] at v1 hK ⊢
                clear hA hy hp
                simp only [Act.eval] at v1
                go_simp
                exact hK _ _ ⟨Stays.refl _, by first | rfl | simp [Is] | (simp [factsOf, Is]; done)⟩
              · have e1 : y 26 = .int .i64 (k : Int) := hp.out 10 (by decide)
                have hkp := HKP.out
                have hk0 := HK0.out
                refine StepG.yes (b := true) (t := 22) rfl rfl rfl (by decide) (hp.out 6 (by decide)) fun K Q hK => ?_
                have v1 := (eval_frame 65 y [] (t := 26) (by decide)).trans e1
                obtain ⟨A, hA⟩ : ∃ A, (⟨frameOf 65 y, []⟩ : Act) = A := ⟨_, rfl⟩
                rw [hA] at v1 hK ⊢
                clear hA hy hp
                simp only [Act.eval] at v1
                go_simp
                exact hK _ _ ⟨Stays.refl _, by show Value.int .i64 (IntKind.i64.wrap (k' : Int)) = Value.int .i64 (k' : Int); rw [HWK.out]⟩
              · have e1 : y 25 = .slice (some ⟨b, off, none⟩) n c := hp.out 9 (by decide)
                have e2 : y 27 = .int .i64 (k' : Int) := hp.out 11 (by decide)
                have hk1 := HK1.out
                refine StepG.yes (b := true) (t := 22) rfl rfl rfl (by decide) (hp.out 6 (by decide)) fun K Q hK => ?_
                have v1 := (eval_frame 65 y [] (t := 25) (by decide)).trans e1
                have v2 := (eval_frame 65 y [] (t := 27) (by decide)).trans e2
                obtain ⟨A, hA⟩ : ∃ A, (⟨frameOf 65 y, []⟩ : Act) = A := ⟨_, rfl⟩
                rw [hA] at v1 v2 hK ⊢
                clear hA hy hp
                simp only [Act.eval] at v1 v2
                go_simp
                exact hK _ _ ⟨Stays.refl _, by first | rfl | simp [Is] | (simp [factsOf, Is]; done)⟩
              · have e1 : y 28 = .pointer (some ⟨b, off + k' * 6, none⟩) := hp.out 12 (by decide)
                refine StepG.yes (b := true) (t := 22) rfl rfl rfl (by decide) (hp.out 6 (by decide)) fun K Q hK => ?_
                have v1 := (eval_frame 65 y [] (t := 28) (by decide)).trans e1
                obtain ⟨A, hA⟩ : ∃ A, (⟨frameOf 65 y, []⟩ : Act) = A := ⟨_, rfl⟩
                rw [hA] at v1 hK ⊢
                clear hA hy hp
                simp only [Act.eval] at v1
                go_simp
                exact hK _ _ ⟨Stays.refl _, by first | rfl | simp [Is] | (simp [factsOf, Is]; done)⟩
              · have e1 : y 29 = .pointer (some ⟨b, off + k' * 6, none⟩) := hp.out 13 (by decide)
                have hq5 : Below wq.heap.size wq w2 := ⟨hst.out.os, hst.out.tape, hst.out.output, hst.out.size, hst.out.block⟩
                have cp := HPR.out w2 hq5
                clear hq5
                refine StepG.yes (b := true) (t := 22) rfl rfl rfl (by decide) (hp.out 6 (by decide)) fun K Q hK => ?_
                have v1 := (eval_frame 65 y [] (t := 29) (by decide)).trans e1
                obtain ⟨A, hA⟩ : ∃ A, (⟨frameOf 65 y, []⟩ : Act) = A := ⟨_, rfl⟩
                rw [hA] at v1 hK ⊢
                clear hA hy hp
                simp only [Act.eval] at v1
                go_simp
                exact hK _ _ ⟨Stays.refl _, by first | rfl | simp [Is] | (simp [factsOf, Is]; done)⟩
              · have e1 : y 24 = .int .u64 s.a := hp.out 8 (by decide)
                have e2 : y 30 = .int .u64 s0.a := hp.out 14 (by decide)
                have hle := HLE.out
                refine StepG.yes (b := true) (t := 22) rfl rfl rfl (by decide) (hp.out 6 (by decide)) fun K Q hK => ?_
                have v1 := (eval_frame 65 y [] (t := 24) (by decide)).trans e1
                have v2 := (eval_frame 65 y [] (t := 30) (by decide)).trans e2
                obtain ⟨A, hA⟩ : ∃ A, (⟨frameOf 65 y, []⟩ : Act) = A := ⟨_, rfl⟩
                rw [hA] at v1 v2 hK ⊢
                clear hA hy hp
                simp only [Act.eval] at v1 v2
                go_simp
                exact hK _ _ ⟨Stays.refl _, by first | rfl | simp [Is] | (simp [factsOf, Is]; done)⟩
              · have e1 : y 22 = .bool true := hp.out 6 (by decide)
                have e2 : y 31 = .bool false := hp.out 15 (by decide)
                refine StepG.yes (b := false) (t := 19) rfl rfl rfl (by decide) (hp.out 3 (by decide)) fun K Q hK => ?_
                have v1 := (eval_frame 65 y [] (t := 22) (by decide)).trans e1
                have v2 := (eval_frame 65 y [] (t := 31) (by decide)).trans e2
                obtain ⟨A, hA⟩ : ∃ A, (⟨frameOf 65 y, []⟩ : Act) = A := ⟨_, rfl⟩
                rw [hA] at v1 v2 hK ⊢
                clear hA hy hp
                simp only [Act.eval] at v1 v2
                go_simp
                exact hK _ _ ⟨Stays.refl _, by first | rfl | simp [Is] | (simp [factsOf, Is]; done)⟩
              · have e1 : y 19 = .bool false := hp.out 3 (by decide)
                have e2 : y 32 = .bool false := hp.out 16 (by decide)
                refine StepG.plain rfl fun K Q hK => ?_
                have v1 := (eval_frame 65 y [] (t := 19) (by decide)).trans e1
                have v2 := (eval_frame 65 y [] (t := 32) (by decide)).trans e2
                obtain ⟨A, hA⟩ : ∃ A, (⟨frameOf 65 y, []⟩ : Act) = A := ⟨_, rfl⟩
                rw [hA] at v1 v2 hK ⊢
                clear hA hy hp
                simp only [Act.eval] at v1 v2
                go_simp
                exact hK _ _ ⟨Stays.refl _, by first | rfl | simp [Is] | (simp [factsOf, Is]; done)⟩
    · have hlti : ¬ (k : Int) < n := by omega
      obtain rfl : k = n := by omega
      have hany : (List.range L.length).any (badV L) = false := by
        rw [List.any_eq_false]
        intro j hj
        rw [HNO.out j (by rw [← HL.out]; exact List.mem_range.1 hj)]; decide
      have hE0 : (if 512 < k then (13 : Int) else 0) = E := by
        rw [← HE.out]
        unfold putE
        rw [hany]
        simp only [Bool.false_eq_true, if_false, HL.out]
      clear hany
      by_cases h5 : 512 < k
      · have h5i : (512 : Int) < k := by omega
        rw [if_pos h5] at hE0
        have HE13 := Lib.hid hE0
        clear hE0 h5
        go_wp2
        go_ret2
        exact ⟨HBW.out, by unfold PutTail; rw [← HE13.out, if_neg (by decide)]; rfl⟩
      · have h5i : ¬ (512 : Int) < k := by omega
        rw [if_neg h5] at hE0
        have HE0 := Lib.hid hE0
        have H5 : Hid (k ≤ 512) := Lib.hid (by omega)
        obtain ⟨gX, hgX⟩ : ∃ gX, wr.heap.size = gX := ⟨_, rfl⟩
        have hnew := vnew_ok wr
        unfold ptrV at hnew
        rw [hgX] at hnew
        have HNEW := Lib.hid hnew
        have HGX : Hid (w.heap.size ≤ gX) := Lib.hid (by rw [← hgX]; exact HBW.out.size)
        have HGB : Hid (gX = wr.heap.size) := Lib.hid hgX.symm
        clear hE0 h5 hnew hgX
        obtain ⟨n, rfl⟩ : ∃ n, n = k := ⟨_, rfl⟩
        go_wp2_with fail
        refine HNEW.out.mono ?_
        rintro r1 w1 ⟨rfl, hat1, hg1⟩
        have hb1 : Below w.heap.size w w1 := HBW.out.grown hg1 HBW.out.size (fun _ h => by cases h)
        have HB1 := Lib.hid hb1
        have HA1 := Lib.hid hat1
        clear hb1 hat1 hg1
        obtain ⟨wo, rfl⟩ : ∃ wo : World, wo = wr := ⟨_, rfl⟩
        go_wp2
        go_loopw [8, 41] (fun _ i wr => ∃ (k : Nat) (S2 : VS), k ≤ n ∧ i = .int .i64 k ∧ Hid (VAt wr S2 ((L.take k).map Vp.pg) k) ∧ S2.g = gX ∧ Hid (∀ j, S2.own j → w.heap.size ≤ j) ∧ Hid (Below w.heap.size w wr)) (fun _ i _ => n - (intOf i).toNat)
        case atStart => exact ⟨0, VS0 gX, Nat.zero_le _, by go_num, HA1, rfl, Lib.hid (fun j hj => by
          have hj : j = gX := hj
          rw [hj]; exact HGX.out), HB1⟩
        case round =>
          obtain ⟨k, S2, hk, rfl, HAT, hg2, HOW, HBL⟩ := hrel
          by_cases hlt : k < n
          · have hlti : (k : Int) < n := by omega
            obtain ⟨b, off, rfl, hbB, hcell⟩ := HH.out.hc (by omega)
            have hat := (hcell k hlt).below (HBL.out.mono HB.out) hbB
            have hok := (HH.out.okAt hlt)
            have hov : okV (L.getD k Vp.zero) = true := by
              have := HNO.out k hlt
              unfold badV at this
              rw [Bool.or_eq_false_iff] at this
              simpa using this.1
            have hri : 0 < k → (L.getD (k - 1) Vp.zero).a < (L.getD k Vp.zero).a := fun h0 => by
              have := HNO.out k hlt
              unfold badV at this
              rw [Bool.or_eq_false_iff] at this
              have h2 := this.2
              simp only [h0, decide_true, Bool.true_and, decide_eq_false_iff_not] at h2
              omega
            obtain ⟨hpo, hpa⟩ := okV_pg hok hov
            have hsn := Vp.take_snoc (L := L) (k := k) (by rw [HL.out]; exact hlt)
            have hlast : ∀ q ∈ (L.take k).map Vp.pg, q.a < (L.getD k Vp.zero).pg.a := by
              intro q hq
              obtain ⟨s, hs, rfl⟩ := List.mem_map.1 hq
              obtain ⟨j, hj, rfl⟩ := List.getElem_of_mem hs
              have hjk : j < k := by rw [List.length_take] at hj; omega
              have hjn : j < n := by omega
              have e : (L.take k)[j] = L.getD j Vp.zero := by
                rw [List.getElem_take, List.getD_eq_getElem?_getD, List.getElem?_eq_getElem (by rw [HL.out]; exact hjn)]; rfl
              rw [e]
              have hj1 := (okV_pg (HH.out.okAt hjn) (okV_of (HNO.out j hjn))).2
              have hr := rise (n := n) HNO.out k hlt j hjk
              omega
            have hn256 : (L.getD k Vp.zero).bb.n = 256 := by
              unfold okV validP at hov
              simp only [Bool.and_eq_true, decide_eq_true_eq] at hov
              exact hov.1.2
            obtain ⟨s, hs⟩ : ∃ s, L.getD k Vp.zero = s := ⟨_, rfl⟩
            rw [hs] at hat hok hpo hpa hsn hlast hn256
            obtain ⟨za, zp, zd, zf, zo, ⟨zba, zn, zc, zs⟩⟩ := s
            simp only at hn256
            subst hn256
            obtain ⟨cb, co, hba, hcB, hcc⟩ := hok.bb.bys.2.2 (by show 0 < 256; decide)
            simp only at hba hcB hcc
            subst hba
            have hzl : zs.length = 256 := hok.bb.bys.1
            have HLT := Lib.hid hlt
            have q0 : wr.cell? ⟨b, off + k * 6, none⟩ = some (.int .u64 za) := hat.c0
            have q1 : wr.cell? ⟨b, off + k * 6 + 1, none⟩ = some (.int .i64 zp) := hat.c1
            have q2 : wr.cell? ⟨b, off + k * 6 + 2, none⟩ = some (.bool zd) := hat.c2
            have q3 : wr.cell? ⟨b, off + k * 6 + 3, none⟩ = some (.string zf) := hat.c3
            have q4 : wr.cell? ⟨b, off + k * 6 + 4, none⟩ = some (.int .u64 zo) := hat.c4
            have q5 : wr.cell? ⟨b, off + k * 6 + 5, none⟩ = some (.slice (some ⟨cb, co, none⟩) 256 zc) := hat.c5
            obtain ⟨wq, hwq⟩ : ∃ wq, wr.alloc (.cells #[.int .u64 za, .int .i64 zp, .bool zd, .string zf, .int .u64 zo, .slice (some ⟨cb, co, none⟩) 256 zc] 27) = wq := ⟨_, rfl⟩
            have hBX : Blk wq wr.heap.size #[.int .u64 za, .int .i64 zp, .bool zd, .string zf, .int .u64 zo, .slice (some ⟨cb, co, none⟩) 256 zc] 27 := by rw [← hwq]; exact Blk.new _ _ _
            have hQ : Below wr.heap.size wr wq := by rw [← hwq]; exact (Below.refl _ _).alloc (Nat.le_refl _) _
            obtain ⟨PG, hPG⟩ : ∃ PG, Vp.pg ⟨za, zp, zd, zf, zo, ⟨some ⟨cb, co, none⟩, 256, zc, zs⟩⟩ = PG := ⟨_, rfl⟩
            rw [hPG] at hpo hpa hlast
            obtain ⟨PC, hPC⟩ : ∃ PC, pgC PG = PC := ⟨_, rfl⟩
            obtain ⟨W0, hW0⟩ : ∃ W0, wq.drew = W0 := ⟨_, rfl⟩
            obtain ⟨W1, hW1⟩ : ∃ W1, W0.alloc (.cells PC 63) = W1 := ⟨_, rfl⟩
            obtain ⟨gz, hgz⟩ : ∃ gz, W0.heap.size = gz := ⟨_, rfl⟩
            have HGZ := Lib.hid hgz
            have HW0 := Lib.hid hW0
            have HW1 := Lib.hid hW1
            have hQ0 : Below wr.heap.size wr W0 := by rw [← hW0]; exact hQ.drew
            have hzQ : wr.heap.size < W0.heap.size := by rw [← hW0]; show wr.heap.size < wq.heap.size; exact hBX.lt
            have hQ1 : Below wr.heap.size wr W1 := by rw [← hW1]; exact hQ0.alloc (Nat.le_of_lt hzQ) _
            have hBX0 : Blk W0 wr.heap.size #[.int .u64 za, .int .i64 zp, .bool zd, .string zf, .int .u64 zo, .slice (some ⟨cb, co, none⟩) 256 zc] 27 := by rw [← hW0]; exact hBX
            have hBX1 : Blk W1 wr.heap.size #[.int .u64 za, .int .i64 zp, .bool zd, .string zf, .int .u64 zo, .slice (some ⟨cb, co, none⟩) 256 zc] 27 := by rw [← hW1]; exact hBX0.alloc _
            have HAT0 : Hid (Vp.At W0 wr.heap.size 0 ⟨za, zp, zd, zf, zo, ⟨some ⟨cb, co, none⟩, 256, zc, zs⟩⟩) := Lib.hid (Vp.of_blk hBX0)
            have HAT1 : Hid (Vp.At W1 wr.heap.size 0 ⟨za, zp, zd, zf, zo, ⟨some ⟨cb, co, none⟩, 256, zc, zs⟩⟩) := Lib.hid (Vp.of_blk hBX1)
            have hcw : cb < wr.heap.size := Nat.lt_of_lt_of_le hcB (Nat.le_trans HB.out HBL.out.size)
            have HLD : Hid ((Instr.loadAt 61 (.pointer (some ⟨cb, co, none⟩))).run Try.prog W0 = .ok (.agg (zs.map (Value.int .u8)).toArray) W0) := Lib.hid (load_arr hzl (fun i hi => by
              have h1 := hcc i hi
              have h2 : wr.cell? ⟨cb, co + i, none⟩ = some (.int .u8 (zs.getD i 0)) := (World.cell?_of_block (w := w) (HBL.out.block _ (Nat.lt_of_lt_of_le hcB HB.out))).trans h1
              exact (World.cell?_of_block (w := wr) (hQ0.block _ hcw)).trans h2))
            have HBT : Hid (Try.prog.built 63 [(0, .int .i64 zp), (1, .bool zd), (2, .string zf), (3, .int .u64 zo), (4, .agg (zs.map (Value.int .u8)).toArray)] = some PC) := Lib.hid (by
              rw [← hPC, ← hPG]
              exact built_page (p := Vp.pg ⟨za, zp, zd, zf, zo, ⟨some ⟨cb, co, none⟩, 256, zc, zs⟩⟩) hzl)
            obtain ⟨Post, hPost⟩ : ∃ Post : World → Prop, Post = fun w' => Hid (∃ S3, VAt w' S3 ((L.take (k + 1)).map Vp.pg) (k + 1) ∧ S3.g = gX ∧ (∀ j, S3.own j → w.heap.size ≤ j) ∧ Below w.heap.size w w') := ⟨_, rfl⟩
            have HADD : Hid (Calls Try.prog 27 #[.pointer (some ⟨gX, 0, none⟩), .int .u64 za, .pointer (some ⟨gz, 0, none⟩)] W1 fun r w' => r = .returned (.tuple #[]) ∧ Post w') := Lib.hid (by
              have hfn : findP ((L.take k).map Vp.pg) PG.a = none := findP_none fun hx => by
                obtain ⟨q, hq, he⟩ := List.mem_map.1 hx
                have := hlast q hq
                omega
              have hln : ((L.take k).map Vp.pg).length = k := by rw [List.length_map, List.length_take, HL.out]; omega
              have hvat : VAt W1 S2 ((L.take k).map Vp.pg) k := HAT.out.below hQ1
              have hkb : Blk W1 gz (pgC PG) 63 := by rw [← hW1, hPC, ← hgz]; exact Blk.new _ _ _
              have h := add_ok hvat hpo hfn (by rw [hln]; have := H5.out; omega) (by have := H5.out; omega) hkb (fun ho => by have := HAT.out.sm _ ho; omega)
              rw [hg2, hpa] at h
              refine h.mono ?_
              rintro r w' ⟨rfl, S3, e1, e2, e3, e4, e5, e6, e7, e8⟩
              refine ⟨rfl, ?_⟩
              rw [hPost]
              refine Lib.hid ⟨S3, ?_, e2, fun j hj => ?_, ?_⟩
              · rw [hsn, List.map_append]
                have : insP ((L.take k).map Vp.pg) PG = (L.take k).map Vp.pg ++ [PG] := ins_last hlast
                rw [this] at e1
                rw [← hPG] at e1
                exact e1
              · have hz := HBL.out.size
                rcases e3 j hj with h | h | h
                · exact HOW.out j h
                · omega
                · have := hQ1.size; omega
              · have hb1 := HBL.out.trans (hQ1.mono HBL.out.size)
                exact ⟨e5.trans hb1.os, e6.trans hb1.tape, e7.trans hb1.output, Nat.le_trans hb1.size e8, fun j hj => (e4 j (Nat.lt_of_lt_of_le hj hb1.size) (fun ho => by have := HOW.out j ho; omega)).trans (hb1.block j hj)⟩)
            have HPO := Lib.hid hPost
            clear hat hok hov hri hpo hpa hsn hlast hs hcc hzl hBX hQ hW0 hW1 hgz hQ0 hzQ hQ1 hBX0 hBX1 hcw hPG hPC hPost hcell hlt hk hcB hbB
            have HG2 := Lib.hid hg2
            clear hg2
            go_wp2
            try rw [hwq]
            clear hwq q0 q1 q2 q3 q4 q5
            refine wp_region_a (by kernel_rfl) 65 rfl [45, 46, 47, 48, 49, 50, 51, 52, 53, 54, 55, 56, 57, 58, 59, 60, 61, 62] (fun _ _ => True) (factsOf [Is (.pointer (some ⟨gX, 0, none⟩)), Is (.pointer (some ⟨wr.heap.size, 0, none⟩)), Is (.int .u64 za), Is (.pointer (some ⟨wr.heap.size, 1, none⟩)), Is (.int .i64 zp), Is (.pointer (some ⟨wr.heap.size, 2, none⟩)), Is (.bool zd), Is (.pointer (some ⟨wr.heap.size, 3, none⟩)), Is (.string zf), Is (.pointer (some ⟨wr.heap.size, 4, none⟩)), Is (.int .u64 zo), Is (.pointer (some ⟨wr.heap.size, 5, none⟩)), Is (.slice (some ⟨cb, co, none⟩) 256 zc), Is (.pointer (some ⟨cb, co, none⟩)), Is (.agg (zs.map (Value.int .u8)).toArray), Is (.agg PC), Is (.pointer (some ⟨gz, 0, none⟩)), AnyB]) (JA [16, 17] [] (PPut W0 W1 wr.heap.size (⟨za, zp, zd, zf, zo, ⟨some ⟨cb, co, none⟩, 256, zc, zs⟩⟩ : Vp) Post)) ?mono13 ?hj13 (by kernel_rfl) ?start13 ?steps13 ?fin13
            case mono13 => exact factsOf_monoR (monoR_cons (Is.monoR _ _) (monoR_cons (Is.monoR _ _) (monoR_cons (Is.monoR _ _) (monoR_cons (Is.monoR _ _) (monoR_cons (Is.monoR _ _) (monoR_cons (Is.monoR _ _) (monoR_cons (Is.monoR _ _) (monoR_cons (Is.monoR _ _) (monoR_cons (Is.monoR _ _) (monoR_cons (Is.monoR _ _) (monoR_cons (Is.monoR _ _) (monoR_cons (Is.monoR _ _) (monoR_cons (Is.monoR _ _) (monoR_cons (Is.monoR _ _) (monoR_cons (Is.monoR _ _) (monoR_cons (Is.monoR _ _) (monoR_cons (Is.monoR _ _) (monoR_cons (AnyB.monoR _) (monoR_nil _)))))))))))))))))))
            case hj13 => exact JA.congr (by decide)
            case start13 =>
              refine JA.of fun L' y' h1 h2 => ?_
              rw [HW0.out]
              exact ⟨fun _ => HAT0.out, fun _ => rfl, (fun h => by rw [h1 16 (by decide)] at h; cases h), (fun h => by rw [h1 17 (by decide)] at h; cases h)⟩
            case fin13 =>
              intro y L w9 hJ hall hF hT
              have hP := hJ.out
              clear hJ hF
              have hpo := hP.c (hall 17 (by decide))
              clear hP hall
              have e0 := hT 0 (by decide)
              have e1 := hT 1 (by decide)
              have e2 := hT 2 (by decide)
              have e3 := hT 3 (by decide)
              have e4 := hT 4 (by decide)
              have e5 := hT 5 (by decide)
              have e6 := hT 6 (by decide)
              have e7 := hT 7 (by decide)
              have e8 := hT 8 (by decide)
              have e9 := hT 9 (by decide)
              have e10 := hT 10 (by decide)
              have e11 := hT 11 (by decide)
              have e12 := hT 12 (by decide)
              have e13 := hT 13 (by decide)
              have e14 := hT 14 (by decide)
              have e15 := hT 15 (by decide)
              have e16 := hT 16 (by decide)
              have e17 := hT 17 (by decide)
              have e18 := hT 18 (by decide)
              have e19 := hT 19 (by decide)
              have e20 := hT 20 (by decide)
              have e21 := hT 21 (by decide)
              have e22 := hT 22 (by decide)
              have e23 := hT 23 (by decide)
              have e24 := hT 24 (by decide)
              have e25 := hT 25 (by decide)
              have e26 := hT 26 (by decide)
              have e27 := hT 27 (by decide)
              have e28 := hT 28 (by decide)
              have e29 := hT 29 (by decide)
              have e30 := hT 30 (by decide)
              have e31 := hT 31 (by decide)
              have e32 := hT 32 (by decide)
              have e33 := hT 33 (by decide)
              have e34 := hT 34 (by decide)
              have e35 := hT 35 (by decide)
              have e36 := hT 36 (by decide)
              have e37 := hT 37 (by decide)
              have e38 := hT 38 (by decide)
              have e39 := hT 39 (by decide)
              have e40 := hT 40 (by decide)
              have e41 := hT 41 (by decide)
              have e42 := hT 42 (by decide)
              have e43 := hT 43 (by decide)
              have e44 := hT 44 (by decide)
              have e63 := hT 63 (by decide)
              have e64 := hT 64 (by decide)
              clear hT
              simp only [List.getD_cons_succ, List.getD_cons_zero] at e0 e1 e2 e3 e4 e5 e6 e7 e8 e9 e10 e11 e12 e13 e14 e15 e16 e17 e18 e19 e20 e21 e22 e23 e24 e25 e26 e27 e28 e29 e30 e31 e32 e33 e34 e35 e36 e37 e38 e39 e40 e41 e42 e43 e44 e63 e64
              rw [fr65]
              simp only [e0, e1, e2, e3, e4, e5, e6, e7, e8, e9, e10, e11, e12, e13, e14, e15, e16, e17, e18, e19, e20, e21, e22, e23, e24, e25, e26, e27, e28, e29, e30, e31, e32, e33, e34, e35, e36, e37, e38, e39, e40, e41, e42, e43, e44, e63, e64]
              clear e0 e1 e2 e3 e4 e5 e6 e7 e8 e9 e10 e11 e12 e13 e14 e15 e16 e17 e18 e19 e20 e21 e22 e23 e24 e25 e26 e27 e28 e29 e30 e31 e32 e33 e34 e35 e36 e37 e38 e39 e40 e41 e42 e43 e44 e63 e64
              rw [HPO.out] at hpo
              go_wp2
              go_roundw
              case rel => exact ⟨k + 1, hpo.out.choose, HLT.out, by go_num, Lib.hid hpo.out.choose_spec.1, hpo.out.choose_spec.2.1, Lib.hid hpo.out.choose_spec.2.2.1, Lib.hid hpo.out.choose_spec.2.2.2⟩
              case measure => have := HLT.out; simp [intOf]; omega
            case steps13 =>
              refine ⟨?_, ?_, ?_, ?_, ?_, ?_, ?_, ?_, ?_, ?_, ?_, ?_, ?_, ?_, ?_, ?_, ?_, ?_, trivial⟩
              all_goals intro L y w9 hJ hL hy0 hp0 hcl hun
              all_goals have hy := Lib.hid hy0
              all_goals have hp := Lib.hid hp0
              all_goals have HJ := Lib.hid hJ
              all_goals have HP := Lib.hid hJ.out
              all_goals have hU := Lib.hid hun
              all_goals clear hy0 hp0 hun hJ
              · have e1 : y 6 = .pointer (some ⟨gX, 0, none⟩) := hy.out 6 (by decide)
                intro K Q hK
                clear hcl hL
                have v1 := (eval_frame 65 y [] (t := 6) (by decide)).trans e1
                obtain ⟨A, hA⟩ : ∃ A, (⟨frameOf 65 y, []⟩ : Act) = A := ⟨_, rfl⟩
                rw [hA] at v1 hK ⊢
                clear hA hy hp
                simp only [Act.eval] at v1
                go_simp
                exact hK _ _ ⟨trivial, fun _ => rfl, HJ.out.pure (by decide) (by decide)⟩
              · have e1 : y 8 = .pointer (some ⟨wr.heap.size, 0, none⟩) := hy.out 8 (by decide)
                intro K Q hK
                clear hcl hL
                have v1 := (eval_frame 65 y [] (t := 8) (by decide)).trans e1
                obtain ⟨A, hA⟩ : ∃ A, (⟨frameOf 65 y, []⟩ : Act) = A := ⟨_, rfl⟩
                rw [hA] at v1 hK ⊢
                clear hA hy hp
                simp only [Act.eval] at v1
                go_simp
                exact hK _ _ ⟨trivial, fun _ => rfl, HJ.out.pure (by decide) (by decide)⟩
              · have e1 : y 46 = .pointer (some ⟨wr.heap.size, 0, none⟩) := (hp.out 1 (by decide)).2 (by decide)
                have hN17 : L 17 = false := by
                  cases h : L 17 with
                  | false => rfl
                  | true => have := (hcl 17 _ rfl h 2 (by decide)); rw [hL] at this; cases this
                have q0 : w9.cell? ⟨wr.heap.size, 0, none⟩ = some (.int .u64 za) := (HP.out.at0 hN17).c0
                intro K Q hK
                clear hcl hL
                have v1 := (eval_frame 65 y [] (t := 46) (by decide)).trans e1
                obtain ⟨A, hA⟩ : ∃ A, (⟨frameOf 65 y, []⟩ : Act) = A := ⟨_, rfl⟩
                rw [hA] at v1 hK ⊢
                clear hA hy hp
                simp only [Act.eval] at v1
                go_simp
                exact hK _ _ ⟨trivial, fun _ => rfl, HJ.out.pure (by decide) (by decide)⟩
              · have e1 : y 8 = .pointer (some ⟨wr.heap.size, 0, none⟩) := hy.out 8 (by decide)
                intro K Q hK
                clear hcl hL
                have v1 := (eval_frame 65 y [] (t := 8) (by decide)).trans e1
                obtain ⟨A, hA⟩ : ∃ A, (⟨frameOf 65 y, []⟩ : Act) = A := ⟨_, rfl⟩
                rw [hA] at v1 hK ⊢
                clear hA hy hp
                simp only [Act.eval] at v1
                go_simp
                exact hK _ _ ⟨trivial, fun _ => rfl, HJ.out.pure (by decide) (by decide)⟩
              · have e1 : y 48 = .pointer (some ⟨wr.heap.size, 1, none⟩) := (hp.out 3 (by decide)).2 (by decide)
                have hN17 : L 17 = false := by
                  cases h : L 17 with
                  | false => rfl
                  | true => have := (hcl 15 _ rfl (hcl 16 _ rfl (hcl 17 _ rfl h 16 (by decide)) 15 (by decide)) 4 (by decide)); rw [hL] at this; cases this
                have q1 : w9.cell? ⟨wr.heap.size, 1, none⟩ = some (.int .i64 zp) := (HP.out.at0 hN17).c1
                intro K Q hK
                clear hcl hL
                have v1 := (eval_frame 65 y [] (t := 48) (by decide)).trans e1
                obtain ⟨A, hA⟩ : ∃ A, (⟨frameOf 65 y, []⟩ : Act) = A := ⟨_, rfl⟩
                rw [hA] at v1 hK ⊢
                clear hA hy hp
                simp only [Act.eval] at v1
                go_simp
                exact hK _ _ ⟨trivial, fun _ => rfl, HJ.out.pure (by decide) (by decide)⟩
              · have e1 : y 8 = .pointer (some ⟨wr.heap.size, 0, none⟩) := hy.out 8 (by decide)
                intro K Q hK
                clear hcl hL
                have v1 := (eval_frame 65 y [] (t := 8) (by decide)).trans e1
                obtain ⟨A, hA⟩ : ∃ A, (⟨frameOf 65 y, []⟩ : Act) = A := ⟨_, rfl⟩
                rw [hA] at v1 hK ⊢
                clear hA hy hp
                simp only [Act.eval] at v1
                go_simp
                exact hK _ _ ⟨trivial, fun _ => rfl, HJ.out.pure (by decide) (by decide)⟩
              · have e1 : y 50 = .pointer (some ⟨wr.heap.size, 2, none⟩) := (hp.out 5 (by decide)).2 (by decide)
                have hN17 : L 17 = false := by
                  cases h : L 17 with
                  | false => rfl
                  | true => have := (hcl 15 _ rfl (hcl 16 _ rfl (hcl 17 _ rfl h 16 (by decide)) 15 (by decide)) 6 (by decide)); rw [hL] at this; cases this
                have q2 : w9.cell? ⟨wr.heap.size, 2, none⟩ = some (.bool zd) := (HP.out.at0 hN17).c2
                intro K Q hK
                clear hcl hL
                have v1 := (eval_frame 65 y [] (t := 50) (by decide)).trans e1
                obtain ⟨A, hA⟩ : ∃ A, (⟨frameOf 65 y, []⟩ : Act) = A := ⟨_, rfl⟩
                rw [hA] at v1 hK ⊢
                clear hA hy hp
                simp only [Act.eval] at v1
                go_simp
                exact hK _ _ ⟨trivial, fun _ => rfl, HJ.out.pure (by decide) (by decide)⟩
              · have e1 : y 8 = .pointer (some ⟨wr.heap.size, 0, none⟩) := hy.out 8 (by decide)
                intro K Q hK
                clear hcl hL
                have v1 := (eval_frame 65 y [] (t := 8) (by decide)).trans e1
                obtain ⟨A, hA⟩ : ∃ A, (⟨frameOf 65 y, []⟩ : Act) = A := ⟨_, rfl⟩
                rw [hA] at v1 hK ⊢
                clear hA hy hp
                simp only [Act.eval] at v1
                go_simp
                exact hK _ _ ⟨trivial, fun _ => rfl, HJ.out.pure (by decide) (by decide)⟩
              · have e1 : y 52 = .pointer (some ⟨wr.heap.size, 3, none⟩) := (hp.out 7 (by decide)).2 (by decide)
                have hN17 : L 17 = false := by
                  cases h : L 17 with
                  | false => rfl
                  | true => have := (hcl 15 _ rfl (hcl 16 _ rfl (hcl 17 _ rfl h 16 (by decide)) 15 (by decide)) 8 (by decide)); rw [hL] at this; cases this
                have q3 : w9.cell? ⟨wr.heap.size, 3, none⟩ = some (.string zf) := (HP.out.at0 hN17).c3
                intro K Q hK
                clear hcl hL
                have v1 := (eval_frame 65 y [] (t := 52) (by decide)).trans e1
                obtain ⟨A, hA⟩ : ∃ A, (⟨frameOf 65 y, []⟩ : Act) = A := ⟨_, rfl⟩
                rw [hA] at v1 hK ⊢
                clear hA hy hp
                simp only [Act.eval] at v1
                go_simp
                exact hK _ _ ⟨trivial, fun _ => rfl, HJ.out.pure (by decide) (by decide)⟩
              · have e1 : y 8 = .pointer (some ⟨wr.heap.size, 0, none⟩) := hy.out 8 (by decide)
                intro K Q hK
                clear hcl hL
                have v1 := (eval_frame 65 y [] (t := 8) (by decide)).trans e1
                obtain ⟨A, hA⟩ : ∃ A, (⟨frameOf 65 y, []⟩ : Act) = A := ⟨_, rfl⟩
                rw [hA] at v1 hK ⊢
                clear hA hy hp
                simp only [Act.eval] at v1
                go_simp
                exact hK _ _ ⟨trivial, fun _ => rfl, HJ.out.pure (by decide) (by decide)⟩
              · have e1 : y 54 = .pointer (some ⟨wr.heap.size, 4, none⟩) := (hp.out 9 (by decide)).2 (by decide)
                have hN17 : L 17 = false := by
                  cases h : L 17 with
                  | false => rfl
                  | true => have := (hcl 15 _ rfl (hcl 16 _ rfl (hcl 17 _ rfl h 16 (by decide)) 15 (by decide)) 10 (by decide)); rw [hL] at this; cases this
                have q4 : w9.cell? ⟨wr.heap.size, 4, none⟩ = some (.int .u64 zo) := (HP.out.at0 hN17).c4
                intro K Q hK
                clear hcl hL
                have v1 := (eval_frame 65 y [] (t := 54) (by decide)).trans e1
                obtain ⟨A, hA⟩ : ∃ A, (⟨frameOf 65 y, []⟩ : Act) = A := ⟨_, rfl⟩
                rw [hA] at v1 hK ⊢
                clear hA hy hp
                simp only [Act.eval] at v1
                go_simp
                exact hK _ _ ⟨trivial, fun _ => rfl, HJ.out.pure (by decide) (by decide)⟩
              · have e1 : y 8 = .pointer (some ⟨wr.heap.size, 0, none⟩) := hy.out 8 (by decide)
                intro K Q hK
                clear hcl hL
                have v1 := (eval_frame 65 y [] (t := 8) (by decide)).trans e1
                obtain ⟨A, hA⟩ : ∃ A, (⟨frameOf 65 y, []⟩ : Act) = A := ⟨_, rfl⟩
                rw [hA] at v1 hK ⊢
                clear hA hy hp
                simp only [Act.eval] at v1
                go_simp
                exact hK _ _ ⟨trivial, fun _ => rfl, HJ.out.pure (by decide) (by decide)⟩
              · have e1 : y 56 = .pointer (some ⟨wr.heap.size, 5, none⟩) := (hp.out 11 (by decide)).2 (by decide)
                have hN17 : L 17 = false := by
                  cases h : L 17 with
                  | false => rfl
                  | true => have := (hcl 13 _ rfl (hcl 14 _ rfl (hcl 15 _ rfl (hcl 16 _ rfl (hcl 17 _ rfl h 16 (by decide)) 15 (by decide)) 14 (by decide)) 13 (by decide)) 12 (by decide)); rw [hL] at this; cases this
                have q5 : w9.cell? ⟨wr.heap.size, 5, none⟩ = some (.slice (some ⟨cb, co, none⟩) 256 zc) := (HP.out.at0 hN17).c5
                intro K Q hK
                clear hcl hL
                have v1 := (eval_frame 65 y [] (t := 56) (by decide)).trans e1
                obtain ⟨A, hA⟩ : ∃ A, (⟨frameOf 65 y, []⟩ : Act) = A := ⟨_, rfl⟩
                rw [hA] at v1 hK ⊢
                clear hA hy hp
                simp only [Act.eval] at v1
                go_simp
                exact hK _ _ ⟨trivial, fun _ => rfl, HJ.out.pure (by decide) (by decide)⟩
              · have e1 : y 57 = .slice (some ⟨cb, co, none⟩) 256 zc := (hp.out 12 (by decide)).2 (by decide)
                intro K Q hK
                clear hcl hL
                have v1 := (eval_frame 65 y [] (t := 57) (by decide)).trans e1
                obtain ⟨A, hA⟩ : ∃ A, (⟨frameOf 65 y, []⟩ : Act) = A := ⟨_, rfl⟩
                rw [hA] at v1 hK ⊢
                clear hA hy hp
                simp only [Act.eval] at v1
                go_simp
                exact hK _ _ ⟨trivial, fun _ => rfl, HJ.out.pure (by decide) (by decide)⟩
              · have e1 : y 58 = .pointer (some ⟨cb, co, none⟩) := (hp.out 13 (by decide)).2 (by decide)
                have hN16 : L 16 = false := by
                  cases h : L 16 with
                  | false => rfl
                  | true => have := (hcl 15 _ rfl (hcl 16 _ rfl h 15 (by decide)) 14 (by decide)); rw [hL] at this; cases this
                obtain rfl := HP.out.k hN16
                intro K Q hK
                clear hcl hL
                have v1 := (eval_frame 65 y [] (t := 58) (by decide)).trans e1
                obtain ⟨A, hA⟩ : ∃ A, (⟨frameOf 65 y, []⟩ : Act) = A := ⟨_, rfl⟩
                rw [hA] at v1 hK ⊢
                clear hA hy hp
                refine wp_load_run 61 (.tmp 58) rfl _ _ v1 HLD.out ?_
                exact hK _ _ ⟨trivial, fun _ => rfl, HJ.out.pure (by decide) (by decide)⟩
              · have e1 : y 49 = .int .i64 zp := (hp.out 4 (by decide)).2 (by decide)
                have e2 : y 51 = .bool zd := (hp.out 6 (by decide)).2 (by decide)
                have e3 : y 53 = .string zf := (hp.out 8 (by decide)).2 (by decide)
                have e4 : y 55 = .int .u64 zo := (hp.out 10 (by decide)).2 (by decide)
                have e5 : y 59 = .agg (zs.map (Value.int .u8)).toArray := (hp.out 14 (by decide)).2 (by decide)
                intro K Q hK
                clear hcl hL
                have v1 := (eval_frame 65 y [] (t := 49) (by decide)).trans e1
                have v2 := (eval_frame 65 y [] (t := 51) (by decide)).trans e2
                have v3 := (eval_frame 65 y [] (t := 53) (by decide)).trans e3
                have v4 := (eval_frame 65 y [] (t := 55) (by decide)).trans e4
                have v5 := (eval_frame 65 y [] (t := 59) (by decide)).trans e5
                obtain ⟨A, hA⟩ : ∃ A, (⟨frameOf 65 y, []⟩ : Act) = A := ⟨_, rfl⟩
                rw [hA] at v1 v2 v3 v4 v5 hK ⊢
                clear hA hy hp
                refine wp_build_eq 63 _ rfl PC ?_ ?_
                · simp only [List.map_toArray, List.map_cons, List.map_nil]
                  rw [v1, v2, v3, v4, v5]
                  exact HBT.out
                exact hK _ _ ⟨trivial, fun _ => rfl, HJ.out.pure (by decide) (by decide)⟩
              · have e1 : y 60 = .agg PC := (hp.out 15 (by decide)).2 (by decide)
                have hN16 : L 16 = false := hL
                have hN17 : L 17 = false := by
                  cases h : L 17 with
                  | false => rfl
                  | true => have := (hcl 17 _ rfl h 16 (by decide)); rw [hL] at this; cases this
                obtain rfl := HP.out.k hN16
                have hat := HP.out.at0 hN17
                intro K Q hK
                clear hcl hL
                have v1 := (eval_frame 65 y [] (t := 60) (by decide)).trans e1
                obtain ⟨A, hA⟩ : ∃ A, (⟨frameOf 65 y, []⟩ : Act) = A := ⟨_, rfl⟩
                rw [hA] at v1 hK ⊢
                clear hA hy hp
                refine wp_box_eq 63 (.tmp 60) rfl PC v1 ?_
                rw [HGZ.out, HW1.out]
                exact hK _ _ ⟨trivial, fun _ => rfl, JA.step fun L' y' h1 h2 h3 h4 => ⟨fun _ => HAT1.out, (fun h => by rw [h2 (by decide)] at h; cases h), fun _ _ => rfl, (fun h => by rw [h1 17 (by decide) (by decide), hN17] at h; cases h)⟩⟩
              · have e1 : y 45 = .pointer (some ⟨gX, 0, none⟩) := (hp.out 0 (by decide)).2 (by decide)
                have e2 : y 47 = .int .u64 za := (hp.out 2 (by decide)).2 (by decide)
                have e3 : y 61 = .pointer (some ⟨gz, 0, none⟩) := (hp.out 16 (by decide)).2 (by decide)
                have hN17 : L 17 = false := hL
                have hL16 : L 16 = true := (hp.out 16 (by decide)).1
                obtain rfl := HP.out.b hL16 hN17
                intro K Q hK
                clear hcl hL
                have v1 := (eval_frame 65 y [] (t := 45) (by decide)).trans e1
                have v2 := (eval_frame 65 y [] (t := 47) (by decide)).trans e2
                have v3 := (eval_frame 65 y [] (t := 61) (by decide)).trans e3
                obtain ⟨A, hA⟩ : ∃ A, (⟨frameOf 65 y, []⟩ : Act) = A := ⟨_, rfl⟩
                rw [hA] at v1 v2 v3 hK ⊢
                clear hA hy hp
                simp only [Act.eval] at v1 v2 v3
                go_simp
                refine HADD.out.mono ?_
                rintro r w5 ⟨rfl, hpost⟩
                exact hK _ _ ⟨trivial, fun _ => trivial, JA.step fun L' y' h1 h2 h3 h4 => ⟨(fun h => by rw [h2 (by decide)] at h; cases h), (fun h => by rw [h1 16 (by decide) (by decide), hL16] at h; cases h), (fun _ h => by rw [h2 (by decide)] at h; cases h), fun _ => hpost⟩⟩
          · have hlti : ¬ (k : Int) < n := by omega
            obtain rfl : k = n := by omega
            have HTK : Hid (L.take k = L) := Lib.hid (List.take_of_length_le (by rw [HL.out]; exact Nat.le_refl _))
            have HG2 := Lib.hid hg2
            clear hg2
            go_wp2
            go_ret2
            refine ⟨HBL.out, ?_⟩
            unfold PutTail
            rw [if_pos HE0.out.symm]
            refine ⟨S2, by rw [HG2.out]; rfl, ?_, HOW.out⟩
            have h1 := HAT.out
            rw [HTK.out] at h1
            rw [HL.out]; exact h1
end Go.Proofs.Ytahjgbmhleiocaa
