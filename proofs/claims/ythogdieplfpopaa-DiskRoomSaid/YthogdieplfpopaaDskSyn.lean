/-
  What is proved here: Sync, SyncNames of package disk.
  Conditions: none.
-/
import Derived.Test.YthogdieplfpopaaDskSet
namespace Go.Proofs.Ythogdieplfpopaa
open Go.RowKit Go.WideMaps Go.Maps
set_option linter.unusedVariables false
set_option linter.unusedSimpArgs false

theorem op_ptr1 {w : World} {S : Sh} {e : Nat} {o : Do} {p : Option Addr} {c1 : Value} (h : OpAt w S e o (.pointer p) c1) : (o.k = 1 ∧ p = some ⟨S.fb o.f, 0, none⟩ ∧ S.live o.f) ∨ (o.k ≠ 1 ∧ p = none) := by
  rcases h with ⟨k1, r0, _, _, _, _, _, _, _, _, _, _, _, _, _, _, _, _, _, x12⟩ | ⟨k1, r0, _⟩ | ⟨k1, r0, _⟩ | ⟨k1, r0, _⟩
  · injection r0 with r0; exact .inl ⟨k1, r0, x12⟩
  · injection r0 with r0; exact .inr ⟨by omega, r0⟩
  · injection r0 with r0; exact .inr ⟨by omega, r0⟩
  · injection r0 with r0; exact .inr ⟨by omega, r0⟩
theorem powerD_same (d : Dk) : (powerD d).wait = d.wait ∧ (powerD d).l = d.l := by unfold powerD; split <;> exact ⟨rfl, rfl⟩
theorem settle_file {w : World} {S : Sh} {d : Dk} {c e F : Nat} (h : At w S d c e) (hF : S.live F) (hc : c + d.wait.length < 1099511627776) (he : e ≤ 1099511627776) :
    Calls Try.prog 51 #[ptrV S.g, ptrV (S.fb F)] w fun r w' => r = .returned (.tuple #[]) ∧ SetPost w S (settledD d (fun _ o => decide (o.k = 1) && decide (o.f = F))) (c + d.wait.length) e w' := by
  refine settle_any h _ _ hc he ?_
  intro k wr Si Di p c1 hk hd m ho
  rcases op_ptr1 ho with ⟨k1, rfl, hl⟩ | ⟨k1, rfl⟩
  · have hlF : Si.live F := by rw [m.live]; exact hF
    have hb := hd.fs.file F hlF
    rw [m.fb] at hb
    rw [eql_two (hd.fs.file _ hl) hb]
    have e1 : decide (Si.fb (d.wait.getD k do0).f = S.fb F) = (decide ((d.wait.getD k do0).k = 1) && decide ((d.wait.getD k do0).f = F)) := by
      rw [decide_eq_true k1, Bool.true_and]
      congr 1
      apply propext
      constructor
      · intro ee
        exact hd.fs.inj _ _ hl hlF (by rw [ee, m.fb])
      · intro ee
        rw [ee, m.fb]
    rw [e1]
  · rw [eql_np, decide_eq_false k1, Bool.false_and]
theorem settle_names {w : World} {S : Sh} {d : Dk} {c e : Nat} (h : At w S d c e) (hc : c + d.wait.length < 1099511627776) (he : e ≤ 1099511627776) :
    Calls Try.prog 51 #[ptrV S.g, .pointer none] w fun r w' => r = .returned (.tuple #[]) ∧ SetPost w S (settledD d (fun _ o => decide (o.k ≠ 1))) (c + d.wait.length) e w' := by
  refine settle_any h none _ hc he ?_
  intro k wr Si Di p c1 hk hd m ho
  rcases op_ptr1 ho with ⟨k1, rfl, hl⟩ | ⟨k1, rfl⟩
  · rw [eql_ptr, decide_eq_false (by omega)]
  · rw [eql_nil, decide_eq_true k1]
set_option maxHeartbeats 3200000 in
set_option maxRecDepth 100000 in
theorem Sync2_ok {w : World} {S : Sh} {d : Dk} {c e : Nat} (h : At w S d c e) {x : ByteArray} {bd bn F : Nat} (hx : x.size ≤ maxLen) (hf : findD d.l x = some F) (hc : c + d.wait.length < 1099511627776) (he : e ≤ 1099511627776) (hbd : Blk w bd #[ptrV S.g] 24) (hbn : Blk w bn #[.string x] 9) :
    Calls Try.prog 50 #[ptrV bd, ptrV bn] w (fun r w' => r = .returned (.tuple #[]) ∧ ∃ S', At w' S' (doneD d 3 x .empty 0 []) (c + d.wait.length) e ∧ Fr w w' S S') := by
  have hlF : S.live F := by
    obtain ⟨y, hy1, _, hy3⟩ := find_mem hf
    rw [← hy3]; exact h.fs.nam0 y hy1
  have edn : doneD d 3 x .empty 0 [] = settledD d (fun _ o => decide (o.k = 1) && decide (o.f = F)) := by
    unfold doneD
    rw [if_neg (by decide), if_neg (by decide), if_pos rfl, hf]
    rfl
  rw [edn]
  have HC : Hid (Calls Try.prog 51 #[ptrV S.g, ptrV (S.fb F)] w.drew fun r w' => r = .returned (.tuple #[]) ∧ Hid (∃ S', At w' S' (settledD d (fun _ o => decide (o.k = 1) && decide (o.f = F))) (c + d.wait.length) e ∧ Fr w w' S S')) := Lib.hid ((settle_file h.drew hlF hc he).mono fun r w' hr => ⟨hr.1, Lib.hid (by obtain ⟨S', a, b⟩ := hr.2; exact ⟨S', a, b.ofDrew⟩)⟩)
  have hfo := find_ok (h.hd.drew) hx
  rw [hf] at hfo
  simp only [fileP] at hfo
  have HF := Lib.hid hfo
  have c0 : w.drew.cell? ⟨bd, 0, none⟩ = some (ptrV S.g) := hbd.cell 0
  have c1 : w.drew.cell? ⟨bn, 0, none⟩ = some (.string x) := hbn.cell 0
  clear h hx hf hc he hbd hbn hlF edn hfo
  unfold ptrV at *
  go_enter Try.func50, Try.ntmps50
  go_region_with (first | (go_at_call 39; refine HF.out.mono ?_; rintro r w' ⟨rfl, rfl⟩) | (go_at_call 51; refine HC.out.mono ?_; rintro r w' ⟨rfl, hS⟩))
  all_goals go_end0
  all_goals exact ⟨rfl, hS.out⟩
set_option maxHeartbeats 800000 in
theorem SyncNames2_ok {w : World} {S : Sh} {d : Dk} {c e : Nat} (h : At w S d c e) {bd : Nat} (hc : c + d.wait.length < 1099511627776) (he : e ≤ 1099511627776) (hbd : Blk w bd #[ptrV S.g] 24) :
    Calls Try.prog 53 #[ptrV bd] w (fun r w' => r = .returned (.tuple #[]) ∧ ∃ S', At w' S' (doneD d 6 .empty .empty 0 []) (c + d.wait.length) e ∧ Fr w w' S S') := by
  have HC := Lib.hid (settle_names h hc he)
  change Hid (Calls _ _ _ _ fun r w' => r = .returned (.tuple #[]) ∧ SetPost w S (doneD d 6 .empty .empty 0 []) (c + d.wait.length) e w') at HC
  have c0 : w.cell? ⟨bd, 0, none⟩ = some (ptrV S.g) := hbd.cell 0
  clear h hc he hbd
  unfold ptrV at *
  go_enter Try.func53, Try.ntmps53
  go_wp2_with fail
  refine HC.out.mono ?_
  rintro r w' ⟨rfl, hS⟩
  have HS := Lib.hid hS
  clear hS
  go_wp2
  go_end0
  exact ⟨rfl, HS.out⟩
set_option maxHeartbeats 800000 in
theorem Sync1_ok {w : World} {S : Sh} {d : Dk} {c e : Nat} (h : At w S d c e) {x : ByteArray} {bd bn : Nat} (hx : x.size ≤ maxLen) (hbd : Blk w bd #[ptrV S.g] 24) (hbn : Blk w bn #[.string x] 9) :
    Calls Try.prog 48 #[ptrV bd, ptrV bn] w fun r w' => w' = w ∧ r = .returned (.int .i64 (errT d x)) := by
  have HF := Lib.hid (there_ok h.hd hx)
  have c0 : w.cell? ⟨bd, 0, none⟩ = some (ptrV S.g) := hbd.cell 0
  have c1 : w.cell? ⟨bn, 0, none⟩ = some (.string x) := hbn.cell 0
  clear h hx hbd hbn
  change Hid (Calls _ _ _ _ fun r w' => w' = w ∧ r = .returned (.int .i64 (errT d x))) at HF
  generalize errT d x = er at *
  unfold ptrV at *
  go_enter Try.func48, Try.ntmps48
  go_wp2_with fail
  refine HF.out.mono ?_
  rintro r w' ⟨rfl, rfl⟩
  go_wp2
  go_ret
  exact ⟨rfl, rfl⟩
theorem SyncNames1_ok (w : World) : Calls Try.prog 52 #[] w fun r w' => w' = w ∧ r = .returned (.int .i64 0) := by
  go_enter Try.func52, Try.ntmps52
  go_wp2
  go_ret
  exact ⟨rfl, rfl⟩
theorem errT_found {d : Dk} {x : ByteArray} (h : errT d x = 0) : ∃ F, findD d.l x = some F := by
  unfold errT at h
  cases hf : findD d.l x with
  | none => rw [hf] at h; simp at h
  | some F => exact ⟨F, rfl⟩
set_option maxHeartbeats 1600000 in
set_option maxRecDepth 100000 in
theorem Sync_ok {w : World} {S : Sh} {d : Dk} {c e : Nat} (h : At w S d c e) {x : ByteArray} (hx : x.size ≤ maxLen) (hc : c + d.wait.length < 1099511627776) (he : e ≤ 1099511627776) :
    Calls Try.prog 16 #[ptrV S.g, .string x] w (OpPost w S (doD d 3 x .empty 0 []) (c + d.wait.length) e) := by
  obtain ⟨w1, e1⟩ : ∃ w1, w1 = w.alloc (.cells #[ptrV S.g] 24) := ⟨_, rfl⟩
  obtain ⟨w2, e2⟩ : ∃ w2, w2 = w1.alloc (.cells #[.string x] 9) := ⟨_, rfl⟩
  have s1 : w1.heap.size = w.heap.size + 1 := by rw [e1, al_size]
  have s2 : w2.heap.size = w.heap.size + 1 + 1 := by rw [e2, al_size, s1]
  have hg : w.grownBy w2 none := by rw [e2, e1]; exact al_grown _ _ _ (al_grown _ _ _ (gr_refl w))
  have hA : At w2 S d c e := h.grown hg (fun _ h => by cases h)
  have b1 : Blk w2 w.heap.size #[ptrV S.g] 24 := by rw [e2, e1]; exact Blk.alloc (Blk.newAt _ _ rfl) _
  have n1 : ¬ S.own w.heap.size := fun hk => by have := h.sm _ hk; omega
  have b2 : Blk w2 (w.heap.size + 1) #[.string x] 9 := by rw [e2]; exact Blk.newAt _ _ s1.symm
  have n2 : ¬ S.own (w.heap.size + 1) := fun hk => by have := h.sm _ hk; omega
  have hop := operate_ok (c' := c + d.wait.length) hA (Nat.le_add_right _ _) 48 50 #[ptrV w.heap.size, ptrV (w.heap.size + 1)] #[ptrV w.heap.size, ptrV (w.heap.size + 1)] (errT d x) (fun w => by kernel_rfl) (fun w => by kernel_rfl) (dn := doneD (powerD d) 3 x .empty 0 [])
    (fun _ => (Sync1_ok hA hx b1 b2).mono fun r w' hr => by obtain ⟨rfl, rfl⟩ := hr; exact ⟨rfl, hA, Fr.refl _ _⟩)
    (fun _ e9 w9 S9 h9 f9 => (by have hp := powerD_same d; have := Sync2_ok (F := Classical.choose (errT_found e9)) h9 hx (by rw [hp.2]; exact Classical.choose_spec (errT_found e9)) (by rw [hp.1]; exact hc) he (by have := (b1).fr f9 n1; rw [f9.g]; exact this) (by have := (b2).fr f9 n2; exact this); rw [hp.1] at this; exact this))
  have edo : doD d 3 x .empty 0 [] = opD d (errT d x) (doneD (powerD d) 3 x .empty 0 []) := doD_op (errT d x) rfl
  rw [← edo] at hop
  clear edo
  have hfr : Fr w w2 S S := ⟨hg.os, hg.tape, hg.output, hg.size, fun k hk hn => hg.block k hk (by simp), rfl, fun k hk => .inl hk⟩
  have HO : Hid (Calls Try.prog 40 #[ptrV S.g, .func (.func 48) #[] #[ptrV w.heap.size, ptrV (w.heap.size + 1)], .func (.func 50) #[] #[ptrV w.heap.size, ptrV (w.heap.size + 1)]] w2 (fun r w' => r = .returned (.int .i64 (doD d 3 x .empty 0 []).2) ∧ Hid (OpPost w S (doD d 3 x .empty 0 []) (c + d.wait.length) e r w'))) := Lib.hid (hop.mono fun r w' hr => ⟨hr.1, Lib.hid ⟨hr.1, by obtain ⟨S', a, b⟩ := hr.2; exact ⟨S', a, hfr.trans b⟩⟩⟩)
  rw [e2, e1] at HO
  clear hop hfr hA hg h b1 n1 b2 n2 hx
  clear s1 s2
  subst e2 e1
  clear hc
  generalize doD d 3 x .empty 0 [] = dd at *
  obtain ⟨dd, er⟩ := dd
  unfold ptrV at *
  go_enter Try.func16, Try.ntmps16
  go_wp2_with fail
  refine HO.out.mono ?_
  rintro r w' ⟨rfl, hS⟩
  go_wp2
  go_ret
  exact hS.out
set_option maxHeartbeats 1600000 in
set_option maxRecDepth 100000 in
theorem SyncNames_ok {w : World} {S : Sh} {d : Dk} {c e : Nat} (h : At w S d c e)   (hc : c + d.wait.length < 1099511627776) (he : e ≤ 1099511627776) :
    Calls Try.prog 17 #[ptrV S.g] w (OpPost w S (doD d 6 .empty .empty 0 []) (c + d.wait.length) e) := by
  obtain ⟨w1, e1⟩ : ∃ w1, w1 = w.alloc (.cells #[ptrV S.g] 24) := ⟨_, rfl⟩
  have s1 : w1.heap.size = w.heap.size + 1 := by rw [e1, al_size]
  have hg : w.grownBy w1 none := by rw [e1]; exact al_grown _ _ _ (gr_refl w)
  have hA : At w1 S d c e := h.grown hg (fun _ h => by cases h)
  have b1 : Blk w1 w.heap.size #[ptrV S.g] 24 := by rw [e1]; exact Blk.newAt _ _ rfl
  have n1 : ¬ S.own w.heap.size := fun hk => by have := h.sm _ hk; omega
  have hop := operate_ok (c' := c + d.wait.length) hA (Nat.le_add_right _ _) 52 53 #[] #[ptrV w.heap.size] ((0 : Int)) (fun w => by kernel_rfl) (fun w => by kernel_rfl) (dn := doneD (powerD d) 6 .empty .empty 0 [])
    (fun _ => (SyncNames1_ok _).mono fun r w' hr => by obtain ⟨rfl, rfl⟩ := hr; exact ⟨rfl, hA, Fr.refl _ _⟩)
    (fun _ _ w9 S9 h9 f9 => (by have hp := powerD_same d; have := SyncNames2_ok h9 (by rw [hp.1]; exact hc) he (by have := (b1).fr f9 n1; rw [f9.g]; exact this); rw [hp.1] at this; exact this))
  have edo : doD d 6 .empty .empty 0 [] = opD d ((0 : Int)) (doneD (powerD d) 6 .empty .empty 0 []) := doD_op ((0 : Int)) rfl
  rw [← edo] at hop
  clear edo
  have hfr : Fr w w1 S S := ⟨hg.os, hg.tape, hg.output, hg.size, fun k hk hn => hg.block k hk (by simp), rfl, fun k hk => .inl hk⟩
  have HO : Hid (Calls Try.prog 40 #[ptrV S.g, .func (.func 52) #[] #[], .func (.func 53) #[] #[ptrV w.heap.size]] w1 (fun r w' => r = .returned (.int .i64 (doD d 6 .empty .empty 0 []).2) ∧ Hid (OpPost w S (doD d 6 .empty .empty 0 []) (c + d.wait.length) e r w'))) := Lib.hid (hop.mono fun r w' hr => ⟨hr.1, Lib.hid ⟨hr.1, by obtain ⟨S', a, b⟩ := hr.2; exact ⟨S', a, hfr.trans b⟩⟩⟩)
  rw [e1] at HO
  clear hop hfr hA hg h b1 n1 
  clear s1
  subst e1
  clear hc
  generalize doD d 6 .empty .empty 0 [] = dd at *
  obtain ⟨dd, er⟩ := dd
  unfold ptrV at *
  go_enter Try.func17, Try.ntmps17
  go_wp2_with fail
  refine HO.out.mono ?_
  rintro r w' ⟨rfl, hS⟩
  go_wp2
  go_ret
  exact hS.out
end Go.Proofs.Ythogdieplfpopaa
