/-
  What is proved here: small calls of package vmem: New, validRange, validProt; nil receivers. · valid of package vmem's Page. · add of package vmem: a page at an address at which there was none.
  Conditions: as they say.
-/
import Derived.Test.YtkhfmgifpppcmaaDoorVmHeap
namespace Go.Proofs.YtkhfmgifpppcmaaDoor
open Go.RowKit Go.WideMaps Go.Maps
set_option linter.unusedVariables false
set_option linter.unusedSimpArgs false

theorem gr_refl (w : World) : w.grownBy w none := ⟨rfl, rfl, rfl, Nat.le_refl _, fun _ _ _ => rfl⟩
def VS0 (g : Nat) : VS := ⟨g, none, fun _ => 0, fun k => k = g⟩
set_option maxHeartbeats 800000 in
theorem vnew_ok (w : World) : Calls Tryd.prog 5 #[] w fun r w' => r = .returned (ptrV w.heap.size) ∧ VAt w' (VS0 w.heap.size) [] 0 ∧ w.grownBy w' none := by
  have HA : Hid (VAt (w.alloc (.cells #[.map none] 47)) (VS0 w.heap.size) [] 0) := Lib.hid ⟨Blk.new w _ _, rfl, (fun _ h => by cases h), (fun _ h => by cases h), (fun _ h => by cases h), List.Pairwise.nil, Nat.zero_le _, rfl, (fun _ h => by cases h), (fun _ h => by cases h), fun k hk => by
    have hk : k = w.heap.size := hk
    rw [hk]; simp⟩
  have HG := Lib.hid (World.grownBy_alloc w (.cells #[.map none] 47) none)
  go_enter Tryd.func5, Tryd.ntmps5
  go_wp2
  go_ret
  exact ⟨rfl, HA.out, HG.out⟩
theorem ret_b {a b : Bool} (h : a = b) : Ending.returned (.bool a) = .returned (.bool b) := by rw [h]
set_option maxHeartbeats 800000 in
theorem prot_ok (w : World) (p : Int) : Calls Tryd.prog 12 #[.int .i64 p] w fun r w' => w' = w ∧ r = .returned (.bool (protP p)) := by
  unfold protP
  go_enter Tryd.func12, Tryd.ntmps12
  by_cases h : 0 ≤ p
  · go_wp2
    go_ret
    exact ⟨rfl, ret_b (by simp [h])⟩
  · go_wp2
    go_ret
    exact ⟨rfl, ret_b (by simp; omega)⟩
set_option maxHeartbeats 1600000 in
theorem range_ok (w : World) (x n : Int) (x0 : 0 ≤ x) (x1 : x ≤ 18446744073709551615) (n0 : 0 ≤ n) (n1 : n ≤ 18446744073709551615) : Calls Tryd.prog 11 #[.int .u64 x, .int .u64 n] w fun r w' => w' = w ∧ r = .returned (.bool (rangeP x n)) := by
  by_cases h1 : x % 256 = 0
  · have h1b : (x % 256 != 0) = false := by simp [h1]
    by_cases h2 : n % 256 = 0
    · have h2b : (n % 256 != 0) = false := by simp [h2]
      by_cases h3 : n = 0
      · subst h3
        have e : rangeP x 0 = false := by simp [rangeP]
        rw [e]
        go_enter Tryd.func11, Tryd.ntmps11
        go_wp2
        go_ret
        exact ⟨rfl, rfl⟩
      · have h3b : (n == 0) = false := by simpa using h3
        by_cases h4 : x ≤ 4294967296
        · have hw : IntKind.u64.wrap (4294967296 - x) = 4294967296 - x := by
            show (4294967296 - x) % 18446744073709551616 = _
            omega
          have e : rangeP x n = decide (n ≤ 4294967296 - x) := by simp [rangeP, h1, h2, h3, h4]
          rw [e]
          clear e h1 h2 h3
          go_enter Tryd.func11, Tryd.ntmps11
          go_wp2
          go_ret
          exact ⟨rfl, ret_b (by first | rfl | simp)⟩
        · have e : rangeP x n = false := by simp [rangeP, h4]
          rw [e]
          clear e h1 h2 h3
          go_enter Tryd.func11, Tryd.ntmps11
          go_wp2
          go_ret
          exact ⟨rfl, rfl⟩
    · have h2b : (n % 256 != 0) = true := by simpa using h2
      have e : rangeP x n = false := by simp [rangeP, h2]
      rw [e]
      clear e h1 h2
      go_enter Tryd.func11, Tryd.ntmps11
      go_wp2
      go_ret
      exact ⟨rfl, rfl⟩
  · have h1b : (x % 256 != 0) = true := by simpa using h1
    have e : rangeP x n = false := by simp [rangeP, h1]
    rw [e]
    clear e h1
    go_enter Tryd.func11, Tryd.ntmps11
    go_wp2
    go_ret
    exact ⟨rfl, rfl⟩
end Go.Proofs.YtkhfmgifpppcmaaDoor
namespace Go.Proofs.YtkhfmgifpppcmaaDoor
open Go.RowKit Go.WideMaps Go.Maps
set_option linter.unusedVariables false
set_option linter.unusedSimpArgs false

/-- May a page be in memory? -/
def validP (a prot : Int) (f : ByteArray) (o : Int) (n : Nat) : Bool := rangeP a 256 && protP prot && decide (n = 256) && (decide (f.toList ≠ []) || decide (o = 0))
end Go.Proofs.YtkhfmgifpppcmaaDoor
namespace Go.Proofs.YtkhfmgifpppcmaaDoor
open Go.RowKit Go.WideMaps Go.Maps
set_option linter.unusedVariables false
set_option linter.unusedSimpArgs false

theorem grown_set (w : World) (g i : Nat) (u : Value) : w.grownBy (w.setCell ⟨g, i, none⟩ u) (some g) := by
  refine ⟨rfl, rfl, rfl, by simp [World.setCell], fun k hk hne => ?_⟩
  unfold World.setCell
  simp only
  rw [Array.getElem?_modify, if_neg (fun e => hne (by rw [e]))]
theorem Blk.put {w : World} {g : Nat} {C : Array Value} {t : TypeId} (h : Blk w g C t) (i : Nat) (u : Value) : Blk (w.setCell ⟨g, i, none⟩ u) g (C.setIfInBounds i u) t := by
  unfold Blk at *
  simp [World.setCell, h, Array.getElem?_modify]
theorem mapv_blk {w : World} {b : Nat} {M : List Pg} {pb : Nat → Nat} {c : Nat} (h : MapV w (some b) M pb c) : ∃ es cl, w.heap[b]? = some (.map es cl) := by
  obtain ⟨D, n, hn, hz, ⟨es, cl, hb, _⟩, hi⟩ := h
  exact ⟨es, cl, hb⟩
theorem blk_not_map {w : World} {b k : Nat} {C : Array Value} {t : TypeId} (h : Blk w k C t) (hm : ∃ es cl, w.heap[b]? = some (.map es cl)) : k ≠ b := fun e => by
  subst e
  obtain ⟨es, cl, hb⟩ := hm
  unfold Blk at h
  rw [hb] at h
  injection h with h
  cases h
theorem blk_ne {w : World} {a b : Nat} {C C' : Array Value} {t t' : TypeId} (h : Blk w a C t) (h' : Blk w b C' t') (ht : t ≠ t') : a ≠ b := fun e => by
  subst e
  unfold Blk at h h'
  rw [h] at h'
  injection h' with h'
  injection h' with _ h'
  exact ht h'
theorem MapV.store {w : World} {b : Nat} {M : List Pg} {pb : Nat → Nat} {c : Nat} (h : MapV w (some b) M pb c) {p : Pg} (hx : p.a ≤ 18446744073709551615) (hc : c < maxLen) (hn : findP M p.a = none) (k : Nat) :
    ∃ w', (Instr.mapUpdate 45 (.map (some b)) (.int .u64 p.a) (ptrV k)).run Tryd.prog w = .ok () w' ∧ MapV w' (some b) (insP M p) (fun x => if x = p.a then k else pb x) (c + 1) ∧ w.grownBy w' (some b) := by
  obtain ⟨D, n, hnc, hz, ho, hi⟩ := h
  obtain ⟨w', hrun, ho', hg⟩ := ho.update law_u64 Tryd.underlying45 (by omega) (key_u64 hx) (show ptrR (ptrV k) = some (.lit (.int .i64 k), []) from rfl)
  refine ⟨w', hrun, ⟨_, n + 1, by omega, ?_, ho', hi.put ho.isMap p (fun x => ins_find x hn)⟩, hg⟩
  rw [size_put (ho.tidy law_u64), (hi p.a).1, hn, if_neg (by decide), hz, ins_len]
/-- What a call on memory leaves of all that is not its own. -/
structure VFr (w w' : World) (S S' : VS) : Prop where
  os : w'.os = w.os
  tape : w'.tape = w.tape
  output : w'.output = w.output
  size : w.heap.size ≤ w'.heap.size
  frm : ∀ k, k < w.heap.size → ¬ S.own k → w'.heap[k]? = w.heap[k]?
  g : S'.g = S.g
  own' : ∀ k, S'.own k → S.own k ∨ w.heap.size ≤ k
theorem VFr.refl (w : World) (S : VS) : VFr w w S S := ⟨rfl, rfl, rfl, Nat.le_refl _, fun _ _ _ => rfl, rfl, fun _ h => .inl h⟩
theorem VFr.trans {w w' w'' : World} {S S' S'' : VS} (h : VFr w w' S S') (h' : VFr w' w'' S' S'') : VFr w w'' S S'' :=
  ⟨h'.os.trans h.os, h'.tape.trans h.tape, h'.output.trans h.output, Nat.le_trans h.size h'.size, fun k hk hn => by
    rw [h'.frm k (Nat.lt_of_lt_of_le hk h.size) (fun hx => ?_), h.frm k hk hn]
    rcases h.own' k hx with h1 | h1
    · exact hn h1
    · omega, h'.g.trans h.g, fun k hk => by
    rcases h'.own' k hk with h1 | h1
    · exact h.own' k h1
    · exact .inr (Nat.le_trans h.size h1)⟩
def VS.page (S : VS) (m : Option Nat) (a k : Nat) (P : Nat → Prop) : VS := { S with m := m, pb := fun x => if x = a then k else S.pb x, own := fun j => S.own j ∨ P j }
theorem VAt.put {w w1 w2 : World} {S : VS} {M : List Pg} {c : Nat} (h : VAt w S M c) {p : Pg} (hp : p.Ok) (hn : findP M p.a = none) (hl : M.length < 512) {k : Nat} (hk : Blk w k (pgC p) 54) (hko : ¬ S.own k) {b : Nat}
    (hs1 : Blk w1 S.g #[.map (some b)] 47) (hg1 : w.grownBy w1 (some S.g)) (hm : MapV w2 (some b) (insP M p) (fun x => if x = p.a then k else S.pb x) (c + 1)) (hg2 : w1.grownBy w2 (some b)) (hmb : ∃ es cl, w1.heap[b]? = some (.map es cl)) (hbo : S.m = some b ∨ w.heap.size ≤ b) :
    VAt w2 (S.page (some b) p.a k (fun j => j = b ∨ j = k)) (insP M p) (c + 1) := by
  have hkg : k ≠ S.g := fun e => hko (by rw [e]; exact h.og)
  have hb2 : ∀ {j C t}, Blk w j C t → j ≠ S.g → Blk w2 j C t := fun {j C t} hB hj => by
    have h1 := hB.turn hg1 (fun e => hj (by injection e))
    exact h1.turn hg2 (fun e => blk_not_map h1 hmb (by injection e))
  have hpk : ∀ q ∈ M, S.pb q.a ≠ k := fun q hq e => hko (by rw [← e]; exact h.op q hq)
  have hpg : ∀ q ∈ M, S.pb q.a ≠ S.g := fun q hq => blk_ne (h.pg q hq) h.sp (by decide)
  have hne : ∀ q ∈ M, q.a ≠ p.a := fun q hq e => by
    have := findP_of h.nd hq
    rw [e, hn] at this
    cases this
  refine ⟨hs1.turn hg2 (fun e => blk_not_map hs1 hmb (by injection e)), hm, fun q hq => ?_, fun q hq r hr => ?_, fun q hq => ?_, ins_so h.so hn, by rw [ins_len]; omega, .inl h.og, fun b' hb' => .inr (.inl (by injection hb' with hb'; exact hb'.symm)), fun q hq => ?_, fun j hj => ?_⟩
  · rcases ins_mem.1 hq with rfl | hq
    · show Blk w2 (if q.a = q.a then k else S.pb q.a) _ _
      rw [if_pos rfl]; exact hb2 hk hkg
    · show Blk w2 (if q.a = p.a then k else S.pb q.a) _ _
      rw [if_neg (hne q hq)]; exact hb2 (h.pg q hq) (hpg q hq)
  · show (if q.a = p.a then k else S.pb q.a) = (if r.a = p.a then k else S.pb r.a) → _
    rcases ins_mem.1 hq with e1 | hq2
    · rcases ins_mem.1 hr with e2 | hr2
      · intro _; rw [e1, e2]
      · rw [if_pos (by rw [e1]), if_neg (hne r hr2)]; exact fun e => absurd e.symm (hpk r hr2)
    · rcases ins_mem.1 hr with e2 | hr2
      · rw [if_pos (show r.a = p.a by rw [e2]), if_neg (hne q hq2)]; exact fun e => absurd e (hpk q hq2)
      · rw [if_neg (hne q hq2), if_neg (hne r hr2)]; exact h.inj q hq2 r hr2
  · rcases ins_mem.1 hq with rfl | hq
    · exact hp
    · exact h.ok q hq
  · show S.own (if q.a = p.a then k else S.pb q.a) ∨ ((if q.a = p.a then k else S.pb q.a) = b ∨ (if q.a = p.a then k else S.pb q.a) = k)
    rcases ins_mem.1 hq with e1 | hq2
    · rw [if_pos (show q.a = p.a by rw [e1])]; exact .inr (.inr rfl)
    · rw [if_neg (hne q hq2)]; exact .inl (h.op q hq2)
  · have hz : w.heap.size ≤ w2.heap.size := Nat.le_trans hg1.size hg2.size
    rcases hj with hj | rfl | rfl
    · exact Nat.lt_of_lt_of_le (h.sm j hj) hz
    · obtain ⟨es, cl, hx⟩ := mapv_blk hm
      exact (Array.getElem?_eq_some_iff.1 hx).1
    · exact Nat.lt_of_lt_of_le hk.lt hz
theorem wpList_update_run {P : Program} (w : World) {ops : Array Oper} {rest : List Oper} {o : Oper} {a : Act} {Q : Exit → Act → World → Prop}
    (hg : o.guard = none) (m x v : Operand) (t : TypeId) (hop : o.op = Op.mapUpdate t m x v) (mv key val : Value) (w' : World) (hm : a.eval m = mv) (hx : a.eval x = key) (hv : a.eval v = val)
    (hrun : (Instr.mapUpdate t mv key val).run P w = .ok () w') (hK : wpList P ops Q rest (a.put o.dst undef) w') : wpList P ops Q (o :: rest) a w := by
  refine wpList_plain hg fun K' hK' => ?_
  unfold Oper.wp
  simp [execOp, hop, hm, hx, hv, hrun, Result.andThen]
  exact hK' _ _ hK
theorem eql_map_none (w : World) : (binOp .eql 45 (.map none) (.map none)).run Tryd.prog w = .ok (.bool true) w := by kernel_rfl
theorem eql_map_some (b : Nat) (w : World) : (binOp .eql 45 (.map (some b)) (.map none)).run Tryd.prog w = .ok (.bool false) w := by kernel_rfl
set_option maxHeartbeats 1600000 in
theorem add_ok {w : World} {S : VS} {M : List Pg} {c : Nat} (h : VAt w S M c) {p : Pg} (hp : p.Ok) (hn : findP M p.a = none) (hl : M.length < 512) (hc : c < 1099511627776) {k : Nat} (hk : Blk w k (pgC p) 54) (hko : ¬ S.own k) :
    Calls Tryd.prog 14 #[ptrV S.g, .int .u64 p.a, ptrV k] w fun r w' => r = .returned (.tuple #[]) ∧ ∃ S', VAt w' S' (insP M p) (c + 1) ∧ S'.g = S.g ∧ (∀ j, S'.own j → S.own j ∨ j = k ∨ w.heap.size ≤ j) ∧ (∀ j, j < w.heap.size → ¬ S.own j → w'.heap[j]? = w.heap[j]?) ∧ w'.os = w.os ∧ w'.tape = w.tape ∧ w'.output = w.output ∧ w.heap.size ≤ w'.heap.size := by
  have c0 : w.cell? ⟨S.g, 0, none⟩ = some (.map S.m) := h.sp.cell 0
  have hpa : p.a ≤ 18446744073709551615 := by have := hp.lt; omega
  have hcm : c < maxLen := by unfold maxLen; omega
  cases hm : S.m with
  | some b =>
    rw [hm] at c0
    have hmp := h.mp
    rw [hm] at hmp
    obtain ⟨w2, hrun, hm2, hg2⟩ := hmp.store hpa hcm hn k
    have hmb := mapv_blk hmp
    have hat := h.put hp hn hl hk hko (w1 := w) (b := b) (by rw [← hm]; exact h.sp) ⟨rfl, rfl, rfl, Nat.le_refl _, fun _ _ _ => rfl⟩ hm2 hg2 hmb (.inl hm)
    have HE : Hid (∃ S', VAt w2 S' (insP M p) (c + 1) ∧ S'.g = S.g ∧ (∀ j, S'.own j → S.own j ∨ j = k ∨ w.heap.size ≤ j) ∧ (∀ j, j < w.heap.size → ¬ S.own j → w2.heap[j]? = w.heap[j]?) ∧ w2.os = w.os ∧ w2.tape = w.tape ∧ w2.output = w.output ∧ w.heap.size ≤ w2.heap.size) := Lib.hid ⟨_, hat, rfl, fun j hj => by
      rcases hj with hj | rfl | rfl
      · exact .inl hj
      · exact .inl (h.om _ hm)
      · exact .inr (.inl rfl), fun j hj hjo => hg2.block j hj (fun e => hjo (by injection e with e; rw [e]; exact h.om b hm)), hg2.os, hg2.tape, hg2.output, hg2.size⟩
    have hq := eql_map_some b w
    clear hat hm2 hg2 hmb hmp h hk hko hp hn
    unfold ptrV at *
    go_enter Tryd.func14, Tryd.ntmps14
    go_wp2
    go_end0
    exact ⟨rfl, HE.out⟩
  | none =>
    rw [hm] at c0
    have hM : M = [] := by have := h.mp; rw [hm] at this; exact this
    have hf0 : w.frozen? ⟨S.g, 0, none⟩ = false := h.sp.frozen 0
    obtain ⟨w1, hw1⟩ : ∃ w1, w1 = (w.alloc (.map #[] 0)).setCell ⟨S.g, 0, none⟩ (.map (some w.heap.size)) := ⟨_, rfl⟩
    have hgl := h.sp.lt
    have hg1 : w.grownBy w1 (some S.g) := by
      rw [hw1]
      refine ⟨rfl, rfl, rfl, by simp [World.setCell], fun j hj hne => ?_⟩
      rw [Below.heap_setCell _ _ _ _ (fun ee => hne (by rw [ee])), Below.heap_alloc _ _ _ hj]
    have hs1 : Blk w1 S.g #[.map (some w.heap.size)] 47 := by
      rw [hw1]
      have := (h.sp.alloc (.map #[] 0)).put 0 (.map (some w.heap.size))
      simpa using this
    have hmp1 : MapV w1 (some w.heap.size) M S.pb c := by
      rw [hM, hw1]
      exact ⟨.map [], 0, Nat.zero_le _, rfl, (World.ownsMap_made w Tryd.prog 22 ptrR).setCell (a := ⟨S.g, 0, none⟩) (by show w.heap.size ≠ S.g; omega) _, mapIs_nil _⟩
    obtain ⟨w2, hrun, hm2, hg2⟩ := hmp1.store hpa hcm hn k
    have hat := h.put hp hn hl hk hko hs1 hg1 hm2 hg2 (mapv_blk hmp1) (.inr (Nat.le_refl _))
    have HE : Hid (∃ S', VAt w2 S' (insP M p) (c + 1) ∧ S'.g = S.g ∧ (∀ j, S'.own j → S.own j ∨ j = k ∨ w.heap.size ≤ j) ∧ (∀ j, j < w.heap.size → ¬ S.own j → w2.heap[j]? = w.heap[j]?) ∧ w2.os = w.os ∧ w2.tape = w.tape ∧ w2.output = w.output ∧ w.heap.size ≤ w2.heap.size) := Lib.hid ⟨_, hat, rfl, fun j hj => by
      rcases hj with hj | rfl | rfl
      · exact .inl hj
      · exact .inr (.inr (Nat.le_refl _))
      · exact .inr (.inl rfl), fun j hj hjo => by
        rw [hg2.block j (Nat.lt_of_lt_of_le hj hg1.size) (fun e => by injection e with e; omega), hg1.block j hj (fun e => hjo (by injection e with e; rw [e]; exact h.og))], hg2.os.trans hg1.os, hg2.tape.trans hg1.tape, hg2.output.trans hg1.output, Nat.le_trans hg1.size hg2.size⟩
    have hq := eql_map_none w
    have hsa : (w.alloc (.map #[] 0)).frozen? ⟨S.g, 0, none⟩ = false := (h.sp.alloc (.map #[] 0)).frozen 0
    have hsc : (w.alloc (.map #[] 0)).cell? ⟨S.g, 0, none⟩ = some (.map none) := by
      have := (h.sp.alloc (.map #[] 0)).cell 0
      rw [hm] at this
      exact this
    have c1 : w1.cell? ⟨S.g, 0, none⟩ = some (.map (some w.heap.size)) := hs1.cell 0
    have HR := Lib.hid hrun
    have hmk : (Instr.makeMap 45 none).run Tryd.prog w = .ok (.map (some w.heap.size)) (w.alloc (.map #[] 0)) := by kernel_rfl
    rw [hw1] at HR c1
    clear hat hm2 hg2 hmp1 hs1 hg1 h hk hko hp hn hM hgl hrun hw1 hf0
    unfold ptrV at *
    go_enter Tryd.func14, Tryd.ntmps14
    go_wp2_with (at_mapUpdate; refine wpList_update_run _ rfl _ _ _ 45 rfl _ _ _ _ rfl rfl rfl HR.out ?_)
    go_end0
    exact ⟨rfl, HE.out⟩
end Go.Proofs.YtkhfmgifpppcmaaDoor
