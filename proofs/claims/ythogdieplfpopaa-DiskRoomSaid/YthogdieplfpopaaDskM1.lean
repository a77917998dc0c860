/-
  What is proved here: Create, Remove, Rename of package disk.
  Conditions: none.
-/
import Derived.Test.YthogdieplfpopaaDskOpr
namespace Go.Proofs.Ythogdieplfpopaa
open Go.RowKit Go.WideMaps Go.Maps
set_option linter.unusedVariables false
set_option linter.unusedSimpArgs false

theorem str_inj {a b : ByteArray} (h : a.toList = b.toList) : a = b := by
  have e : ∀ s : ByteArray, s.toList = Lib.bytesOf (bs s) := fun s => by
    have := Lib.strOfNums_toList (bs s)
    rw [strOfNums_bs] at this
    exact this
  rw [e, e] at h
  apply bs_inj
  unfold Lib.bytesOf at h
  have h2 := congrArg (List.map fun c : UInt8 => (c.toNat : Int)) h
  rw [List.map_map, List.map_map] at h2
  have id' : ∀ s : ByteArray, List.map ((fun c : UInt8 => (c.toNat : Int)) ∘ fun n => UInt8.ofNat n.toNat) (bs s) = bs s := fun s => by
    conv => rhs; rw [← List.map_id (bs s)]
    refine List.map_congr_left fun n hn => ?_
    have := bs_bd s n hn
    obtain ⟨m, rfl⟩ := Int.eq_ofNat_of_zero_le this.1
    have hm : m < 256 := by omega
    simp [Nat.mod_eq_of_lt hm]
  rw [id', id'] at h2
  exact h2
theorem str_ne {a b : ByteArray} (h : ¬ a = b) : (a.toList == b.toList) = false := by
  rw [beq_eq_false_iff_ne]
  exact fun e => h (str_inj e)
theorem str_some {a : ByteArray} (h : ¬ a = .empty) : a.toList.isEmpty = false := by
  rw [List.isEmpty_eq_false_iff]
  exact fun e => h (str_inj (e.trans (by simp)))
theorem Blk.fr {w w' : World} {S S' : Sh} {k : Nat} {C : Array Value} {t : TypeId} (h : Blk w k C t) (hf : Fr w w' S S') (hn : ¬ S.own k) : Blk w' k C t := blk_same h (hf.frm k h.lt hn)
theorem doD_op {d : Dk} {k : Nat} {a b : ByteArray} {p : Int} {body : List Int} (er : Int) (h : errD d k a b p body = if d.off = true then 23 else er) : doD d k a b p body = opD d er (doneD (powerD d) k a b p.toNat body) := by
  unfold doD opD
  rw [h]
  by_cases ho : d.off = true
  · rw [if_pos ho, if_pos (by decide), if_pos ho]
  · rw [if_neg ho, if_neg ho]
theorem neq_ptr (b : Nat) (w : World) : (binOp .neq 73 (.pointer (some ⟨b, 0, none⟩)) (.pointer none)).run Try.prog w = .ok (.bool true) w := by kernel_rfl
theorem neq_nil (w : World) : (binOp .neq 73 (.pointer none) (.pointer none)).run Try.prog w = .ok (.bool false) w := by kernel_rfl
set_option maxHeartbeats 800000 in
theorem there_ok {w : World} {S : Sh} {d : Dk} {c e : Nat} (h : Hd w S d c e) {x : ByteArray} (hx : x.size ≤ maxLen) :
    Calls Try.prog 49 #[ptrV S.g, .string x] w fun r w' => w' = w ∧ r = .returned (.int .i64 (if (findD d.l x).isSome = true then 0 else 20)) := by
  have HF := Lib.hid (find_ok h hx)
  have hq1 := fun b => eql_ptr b w
  have hq2 := eql_nil w
  clear h hx
  unfold ptrV at *
  generalize S.fb = fb at *
  generalize findD d.l x = o at *
  cases o
  all_goals simp only [fileP, Option.isSome, if_true, Bool.false_eq_true, if_false] at HF ⊢
  all_goals go_enter Try.func49, Try.ntmps49
  all_goals go_wp2_with fail
  all_goals refine HF.out.mono ?_
  all_goals rintro r w' ⟨rfl, rfl⟩
  all_goals go_wp2
  all_goals go_ret
  all_goals exact ⟨rfl, rfl⟩
set_option maxHeartbeats 800000 in
theorem Create2_ok {w : World} {S : Sh} {d : Dk} {c e : Nat} (h : At w S d c e) {x : ByteArray} {bd bn : Nat} (hx : x.size ≤ maxLen) (hc : c < 1099511627776) (he : e ≤ 1099511627776) (hbd : Blk w bd #[ptrV S.g] 24) (hbn : Blk w bn #[.string x] 9) :
    Calls Try.prog 41 #[ptrV bd, ptrV bn] w (fun r w' => r = .returned (.tuple #[]) ∧ ∃ S', At w' S' (doneD d 1 x .empty 0 []) (c + 1) e ∧ Fr w w' S S') := by
  have HC : Hid (Calls Try.prog 42 #[ptrV S.g, .string x] w fun r w' => r = .returned (.tuple #[]) ∧ Hid (∃ S', At w' S' (doneD d 1 x .empty 0 []) (c + 1) e ∧ Fr w w' S S')) := Lib.hid ((create_ok h hx hc he).mono fun r w' hr => ⟨hr.1, Lib.hid (by obtain ⟨S', a, b, _⟩ := hr.2; exact ⟨S', a, b⟩)⟩)
  have c0 : w.cell? ⟨bd, 0, none⟩ = some (ptrV S.g) := hbd.cell 0
  have c1 : w.cell? ⟨bn, 0, none⟩ = some (.string x) := hbn.cell 0
  clear h hc he hbd hbn hx
  generalize hX : ptrV S.g = X at *
  clear hX
  unfold ptrV at *
  go_enter Try.func41, Try.ntmps41
  go_wp2_with fail
  refine HC.out.mono ?_
  rintro r w' ⟨rfl, hS⟩
  go_wp2
  go_end0
  exact ⟨rfl, hS.out⟩
set_option maxHeartbeats 800000 in
theorem Remove2_ok {w : World} {S : Sh} {d : Dk} {c e : Nat} (h : At w S d c e) {x : ByteArray} {bd bn : Nat} (hx : x.size ≤ maxLen) (hc : c < 1099511627776) (he : e ≤ 1099511627776) (hbd : Blk w bd #[ptrV S.g] 24) (hbn : Blk w bn #[.string x] 9) :
    Calls Try.prog 60 #[ptrV bd, ptrV bn] w (fun r w' => r = .returned (.tuple #[]) ∧ ∃ S', At w' S' (doneD d 5 x .empty 0 []) (c + 1) e ∧ Fr w w' S S') := by
  have HC : Hid (Calls Try.prog 61 #[ptrV S.g, .string x] w fun r w' => r = .returned (.tuple #[]) ∧ Hid (∃ S', At w' S' (doneD d 5 x .empty 0 []) (c + 1) e ∧ Fr w w' S S')) := Lib.hid ((remove_ok h hx hc he).mono fun r w' hr => ⟨hr.1, Lib.hid (by obtain ⟨S', a, b, _⟩ := hr.2; exact ⟨S', a, b⟩)⟩)
  have c0 : w.cell? ⟨bd, 0, none⟩ = some (ptrV S.g) := hbd.cell 0
  have c1 : w.cell? ⟨bn, 0, none⟩ = some (.string x) := hbn.cell 0
  clear h hc he hbd hbn hx
  generalize hX : ptrV S.g = X at *
  clear hX
  unfold ptrV at *
  go_enter Try.func60, Try.ntmps60
  go_wp2_with fail
  refine HC.out.mono ?_
  rintro r w' ⟨rfl, hS⟩
  go_wp2
  go_end0
  exact ⟨rfl, hS.out⟩
set_option maxHeartbeats 800000 in
theorem Rename2_ok {w : World} {S : Sh} {d : Dk} {c e : Nat} (h : At w S d c e) {x y : ByteArray} {bd bn by' : Nat} (hx : x.size ≤ maxLen) (hy : y.size ≤ maxLen) (hc : c < 1099511627776) (he : e ≤ 1099511627776) (hbd : Blk w bd #[ptrV S.g] 24) (hbn : Blk w bn #[.string x] 9) (hby : Blk w by' #[.string y] 9) :
    Calls Try.prog 57 #[ptrV bd, ptrV bn, ptrV by'] w (fun r w' => r = .returned (.tuple #[]) ∧ ∃ S', At w' S' (doneD d 4 x y 0 []) (c + 1) e ∧ Fr w w' S S') := by
  have HC : Hid (Calls Try.prog 58 #[ptrV S.g, .string x, .string y] w fun r w' => r = .returned (.tuple #[]) ∧ Hid (∃ S', At w' S' (doneD d 4 x y 0 []) (c + 1) e ∧ Fr w w' S S')) := Lib.hid ((rename_ok h hx hy hc he).mono fun r w' hr => ⟨hr.1, Lib.hid (by obtain ⟨S', a, b, _⟩ := hr.2; exact ⟨S', a, b⟩)⟩)
  have c0 : w.cell? ⟨bd, 0, none⟩ = some (ptrV S.g) := hbd.cell 0
  have c1 : w.cell? ⟨bn, 0, none⟩ = some (.string x) := hbn.cell 0
  have c2 : w.cell? ⟨by', 0, none⟩ = some (.string y) := hby.cell 0
  clear h hc he hbd hbn hby hx hy
  generalize hX : ptrV S.g = X at *
  clear hX
  unfold ptrV at *
  go_enter Try.func57, Try.ntmps57
  go_wp2_with fail
  refine HC.out.mono ?_
  rintro r w' ⟨rfl, hS⟩
  go_wp2
  go_end0
  exact ⟨rfl, hS.out⟩
def errC (d : Dk) (x : ByteArray) : Int := if x = .empty then 1 else if (findD d.l x).isSome = true then 21 else 0
def errT (d : Dk) (x : ByteArray) : Int := if (findD d.l x).isSome = true then 0 else 20
def errR (d : Dk) (x y : ByteArray) : Int := if (findD d.l x).isSome = true then (if y = .empty then 1 else 0) else 20
set_option maxHeartbeats 1600000 in
set_option maxRecDepth 100000 in
theorem Create1_ok {w : World} {S : Sh} {d : Dk} {c e : Nat} (h : At w S d c e) {x : ByteArray} {bd bn : Nat} (hx : x.size ≤ maxLen) (hbd : Blk w bd #[ptrV S.g] 24) (hbn : Blk w bn #[.string x] 9) :
    Calls Try.prog 38 #[ptrV bn, ptrV bd] w fun r w' => w' = w ∧ r = .returned (.int .i64 (errC d x)) := by
  have HF := Lib.hid (find_ok h.hd hx)
  have hq1 := fun b => neq_ptr b w
  have hq2 := neq_nil w
  have c0 : w.cell? ⟨bd, 0, none⟩ = some (ptrV S.g) := hbd.cell 0
  have c1 : w.cell? ⟨bn, 0, none⟩ = some (.string x) := hbn.cell 0
  clear h hx hbd hbn
  unfold ptrV at *
  by_cases he : x = .empty
  · have e0 : errC d x = 1 := by unfold errC; rw [if_pos he]
    rw [e0]
    clear e0 HF
    subst he
    go_enter Try.func38, Try.ntmps38
    go_wp2
    go_ret
    exact ⟨rfl, rfl⟩
  · have hne : x.toList.isEmpty = false := str_some he
    have e0 : errC d x = if (findD d.l x).isSome = true then 21 else 0 := by unfold errC; rw [if_neg he]
    rw [e0]
    clear e0
    generalize S.fb = fb at *
    generalize findD d.l x = o at *
    cases o
    all_goals simp only [fileP, Option.isSome, if_true, Bool.false_eq_true, if_false] at HF ⊢
    all_goals go_enter Try.func38, Try.ntmps38
    all_goals go_wp2_with fail
    all_goals refine HF.out.mono ?_
    all_goals rintro r w' ⟨rfl, rfl⟩
    all_goals go_wp2
    all_goals go_ret
    all_goals exact ⟨rfl, rfl⟩
set_option maxHeartbeats 800000 in
theorem Remove1_ok {w : World} {S : Sh} {d : Dk} {c e : Nat} (h : At w S d c e) {x : ByteArray} {bd bn : Nat} (hx : x.size ≤ maxLen) (hbd : Blk w bd #[ptrV S.g] 24) (hbn : Blk w bn #[.string x] 9) :
    Calls Try.prog 59 #[ptrV bd, ptrV bn] w fun r w' => w' = w ∧ r = .returned (.int .i64 (errT d x)) := by
  have HF := Lib.hid (there_ok h.hd hx)
  have c0 : w.cell? ⟨bd, 0, none⟩ = some (ptrV S.g) := hbd.cell 0
  have c1 : w.cell? ⟨bn, 0, none⟩ = some (.string x) := hbn.cell 0
  clear h hx hbd hbn
  change Hid (Calls _ _ _ _ fun r w' => w' = w ∧ r = .returned (.int .i64 (errT d x))) at HF
  generalize errT d x = er at *
  unfold ptrV at *
  go_enter Try.func59, Try.ntmps59
  go_wp2_with fail
  refine HF.out.mono ?_
  rintro r w' ⟨rfl, rfl⟩
  go_wp2
  go_ret
  exact ⟨rfl, rfl⟩
set_option maxHeartbeats 1600000 in
theorem Rename1_ok {w : World} {S : Sh} {d : Dk} {c e : Nat} (h : At w S d c e) {x y : ByteArray} {bd bn by' : Nat} (hx : x.size ≤ maxLen) (hbd : Blk w bd #[ptrV S.g] 24) (hbn : Blk w bn #[.string x] 9) (hby : Blk w by' #[.string y] 9) :
    Calls Try.prog 56 #[ptrV bd, ptrV bn, ptrV by'] w fun r w' => w' = w ∧ r = .returned (.int .i64 (errR d x y)) := by
  have HF := Lib.hid (there_ok h.hd hx)
  have c0 : w.cell? ⟨bd, 0, none⟩ = some (ptrV S.g) := hbd.cell 0
  have c1 : w.cell? ⟨bn, 0, none⟩ = some (.string x) := hbn.cell 0
  have c2 : w.cell? ⟨by', 0, none⟩ = some (.string y) := hby.cell 0
  clear h hx hbd hbn hby
  unfold errR
  unfold ptrV at *
  generalize (findD d.l x).isSome = o at *
  cases o
  · simp only [Bool.false_eq_true, if_false] at HF ⊢
    go_enter Try.func56, Try.ntmps56
    go_wp2_with fail
    refine HF.out.mono ?_
    rintro r w' ⟨rfl, rfl⟩
    go_wp2
    go_ret
    exact ⟨rfl, rfl⟩
  · simp only [if_true] at HF ⊢
    by_cases hy : y = .empty
    · rw [if_pos hy]
      subst hy
      go_enter Try.func56, Try.ntmps56
      go_wp2_with fail
      refine HF.out.mono ?_
      rintro r w' ⟨rfl, rfl⟩
      go_wp2
      go_ret
      exact ⟨rfl, rfl⟩
    · rw [if_neg hy]
      have hne : y.toList.isEmpty = false := str_some hy
      go_enter Try.func56, Try.ntmps56
      go_wp2_with fail
      refine HF.out.mono ?_
      rintro r w' ⟨rfl, rfl⟩
      go_wp2
      go_ret
      exact ⟨rfl, rfl⟩
set_option maxHeartbeats 1600000 in
set_option maxRecDepth 100000 in
theorem Create_ok {w : World} {S : Sh} {d : Dk} {c e : Nat} (h : At w S d c e) {x : ByteArray} (hx : x.size ≤ maxLen) (hc : c < 1099511627776) (he : e ≤ 1099511627776) :
    Calls Try.prog 14 #[ptrV S.g, .string x] w (OpPost w S (doD d 1 x .empty 0 []) (c + 1) e) := by
  obtain ⟨w1, e1⟩ : ∃ w1, w1 = w.alloc (.cells #[ptrV S.g] 24) := ⟨_, rfl⟩
  obtain ⟨w2, e2⟩ : ∃ w2, w2 = w1.alloc (.cells #[.string x] 9) := ⟨_, rfl⟩
  have s1 : w1.heap.size = w.heap.size + 1 := by rw [e1, al_size]
  have s2 : w2.heap.size = w.heap.size + 1 + 1 := by rw [e2, al_size, s1]
  have hg : w.grownBy w2 none := by rw [e2, e1]; exact al_grown _ _ _ (al_grown _ _ _ (gr_refl w))
  have hA : At w2 S d c e := h.grown hg (fun _ h => by cases h)
  have b1 : Blk w2 w.heap.size #[ptrV S.g] 24 := by rw [e2, e1]; exact Blk.alloc (Blk.newAt _ _ rfl) _
  have n1 : ¬ S.own w.heap.size := fun hk => by have := h.sm _ hk; omega
  have b2 : Blk w2 (w.heap.size + 1) #[.string x] 9 := by rw [e2]; exact Blk.newAt _ _ s1.symm
  have n2 : ¬ S.own (w.heap.size + 1) := fun hk => by have := h.sm _ hk; omega
  have hop := operate_ok (c' := c + 1) hA (Nat.le_succ c) 38 41 #[ptrV (w.heap.size + 1), ptrV w.heap.size] #[ptrV w.heap.size, ptrV (w.heap.size + 1)] (errC d x) (fun w => by kernel_rfl) (fun w => by kernel_rfl) (dn := doneD (powerD d) 1 x .empty 0 [])
    (fun _ => (Create1_ok hA hx b1 b2).mono fun r w' hr => by obtain ⟨rfl, rfl⟩ := hr; exact ⟨rfl, hA, Fr.refl _ _⟩)
    (fun _ _ w9 S9 h9 f9 => Create2_ok h9 hx hc he (by have := (b1).fr f9 n1; rw [f9.g]; exact this) (by have := (b2).fr f9 n2; exact this))
  have edo : doD d 1 x .empty 0 [] = opD d (errC d x) (doneD (powerD d) 1 x .empty 0 []) := doD_op (errC d x) rfl
  rw [← edo] at hop
  clear edo
  have hfr : Fr w w2 S S := ⟨hg.os, hg.tape, hg.output, hg.size, fun k hk hn => hg.block k hk (by simp), rfl, fun k hk => .inl hk⟩
  have HO : Hid (Calls Try.prog 40 #[ptrV S.g, .func (.func 38) #[] #[ptrV (w.heap.size + 1), ptrV w.heap.size], .func (.func 41) #[] #[ptrV w.heap.size, ptrV (w.heap.size + 1)]] w2 (fun r w' => r = .returned (.int .i64 (doD d 1 x .empty 0 []).2) ∧ Hid (OpPost w S (doD d 1 x .empty 0 []) (c + 1) e r w'))) := Lib.hid (hop.mono fun r w' hr => ⟨hr.1, Lib.hid ⟨hr.1, by obtain ⟨S', a, b⟩ := hr.2; exact ⟨S', a, hfr.trans b⟩⟩⟩)
  rw [e2, e1] at HO
  clear hop hfr hA hg h b1 n1 b2 n2 hx
  clear s1 s2
  subst e2 e1
  generalize doD d 1 x .empty 0 [] = dd at *
  obtain ⟨dd, er⟩ := dd
  unfold ptrV at *
  go_enter Try.func14, Try.ntmps14
  go_wp2_with fail
  refine HO.out.mono ?_
  rintro r w' ⟨rfl, hS⟩
  go_wp2
  go_ret
  exact hS.out
set_option maxHeartbeats 1600000 in
set_option maxRecDepth 100000 in
theorem Remove_ok {w : World} {S : Sh} {d : Dk} {c e : Nat} (h : At w S d c e) {x : ByteArray} (hx : x.size ≤ maxLen) (hc : c < 1099511627776) (he : e ≤ 1099511627776) :
    Calls Try.prog 22 #[ptrV S.g, .string x] w (OpPost w S (doD d 5 x .empty 0 []) (c + 1) e) := by
  obtain ⟨w1, e1⟩ : ∃ w1, w1 = w.alloc (.cells #[ptrV S.g] 24) := ⟨_, rfl⟩
  obtain ⟨w2, e2⟩ : ∃ w2, w2 = w1.alloc (.cells #[.string x] 9) := ⟨_, rfl⟩
  have s1 : w1.heap.size = w.heap.size + 1 := by rw [e1, al_size]
  have s2 : w2.heap.size = w.heap.size + 1 + 1 := by rw [e2, al_size, s1]
  have hg : w.grownBy w2 none := by rw [e2, e1]; exact al_grown _ _ _ (al_grown _ _ _ (gr_refl w))
  have hA : At w2 S d c e := h.grown hg (fun _ h => by cases h)
  have b1 : Blk w2 w.heap.size #[ptrV S.g] 24 := by rw [e2, e1]; exact Blk.alloc (Blk.newAt _ _ rfl) _
  have n1 : ¬ S.own w.heap.size := fun hk => by have := h.sm _ hk; omega
  have b2 : Blk w2 (w.heap.size + 1) #[.string x] 9 := by rw [e2]; exact Blk.newAt _ _ s1.symm
  have n2 : ¬ S.own (w.heap.size + 1) := fun hk => by have := h.sm _ hk; omega
  have hop := operate_ok (c' := c + 1) hA (Nat.le_succ c) 59 60 #[ptrV w.heap.size, ptrV (w.heap.size + 1)] #[ptrV w.heap.size, ptrV (w.heap.size + 1)] (errT d x) (fun w => by kernel_rfl) (fun w => by kernel_rfl) (dn := doneD (powerD d) 5 x .empty 0 [])
    (fun _ => (Remove1_ok hA hx b1 b2).mono fun r w' hr => by obtain ⟨rfl, rfl⟩ := hr; exact ⟨rfl, hA, Fr.refl _ _⟩)
    (fun _ _ w9 S9 h9 f9 => Remove2_ok h9 hx hc he (by have := (b1).fr f9 n1; rw [f9.g]; exact this) (by have := (b2).fr f9 n2; exact this))
  have edo : doD d 5 x .empty 0 [] = opD d (errT d x) (doneD (powerD d) 5 x .empty 0 []) := doD_op (errT d x) rfl
  rw [← edo] at hop
  clear edo
  have hfr : Fr w w2 S S := ⟨hg.os, hg.tape, hg.output, hg.size, fun k hk hn => hg.block k hk (by simp), rfl, fun k hk => .inl hk⟩
  have HO : Hid (Calls Try.prog 40 #[ptrV S.g, .func (.func 59) #[] #[ptrV w.heap.size, ptrV (w.heap.size + 1)], .func (.func 60) #[] #[ptrV w.heap.size, ptrV (w.heap.size + 1)]] w2 (fun r w' => r = .returned (.int .i64 (doD d 5 x .empty 0 []).2) ∧ Hid (OpPost w S (doD d 5 x .empty 0 []) (c + 1) e r w'))) := Lib.hid (hop.mono fun r w' hr => ⟨hr.1, Lib.hid ⟨hr.1, by obtain ⟨S', a, b⟩ := hr.2; exact ⟨S', a, hfr.trans b⟩⟩⟩)
  rw [e2, e1] at HO
  clear hop hfr hA hg h b1 n1 b2 n2 hx
  clear s1 s2
  subst e2 e1
  generalize doD d 5 x .empty 0 [] = dd at *
  obtain ⟨dd, er⟩ := dd
  unfold ptrV at *
  go_enter Try.func22, Try.ntmps22
  go_wp2_with fail
  refine HO.out.mono ?_
  rintro r w' ⟨rfl, hS⟩
  go_wp2
  go_ret
  exact hS.out
set_option maxHeartbeats 1600000 in
set_option maxRecDepth 100000 in
theorem Rename_ok {w : World} {S : Sh} {d : Dk} {c e : Nat} (h : At w S d c e) {x y : ByteArray} (hx : x.size ≤ maxLen) (hy : y.size ≤ maxLen) (hc : c < 1099511627776) (he : e ≤ 1099511627776) :
    Calls Try.prog 21 #[ptrV S.g, .string x, .string y] w (OpPost w S (doD d 4 x y 0 []) (c + 1) e) := by
  obtain ⟨w1, e1⟩ : ∃ w1, w1 = w.alloc (.cells #[ptrV S.g] 24) := ⟨_, rfl⟩
  obtain ⟨w2, e2⟩ : ∃ w2, w2 = w1.alloc (.cells #[.string x] 9) := ⟨_, rfl⟩
  obtain ⟨w3, e3⟩ : ∃ w3, w3 = w2.alloc (.cells #[.string y] 9) := ⟨_, rfl⟩
  have s1 : w1.heap.size = w.heap.size + 1 := by rw [e1, al_size]
  have s2 : w2.heap.size = w.heap.size + 1 + 1 := by rw [e2, al_size, s1]
  have s3 : w3.heap.size = w.heap.size + 1 + 1 + 1 := by rw [e3, al_size, s2]
  have hg : w.grownBy w3 none := by rw [e3, e2, e1]; exact al_grown _ _ _ (al_grown _ _ _ (al_grown _ _ _ (gr_refl w)))
  have hA : At w3 S d c e := h.grown hg (fun _ h => by cases h)
  have b1 : Blk w3 w.heap.size #[ptrV S.g] 24 := by rw [e3, e2, e1]; exact Blk.alloc (Blk.alloc (Blk.newAt _ _ rfl) _) _
  have n1 : ¬ S.own w.heap.size := fun hk => by have := h.sm _ hk; omega
  have b2 : Blk w3 (w.heap.size + 1) #[.string x] 9 := by rw [e3, e2]; exact Blk.alloc (Blk.newAt _ _ s1.symm) _
  have n2 : ¬ S.own (w.heap.size + 1) := fun hk => by have := h.sm _ hk; omega
  have b3 : Blk w3 (w.heap.size + 1 + 1) #[.string y] 9 := by rw [e3]; exact Blk.newAt _ _ s2.symm
  have n3 : ¬ S.own (w.heap.size + 1 + 1) := fun hk => by have := h.sm _ hk; omega
  have hop := operate_ok (c' := c + 1) hA (Nat.le_succ c) 56 57 #[ptrV w.heap.size, ptrV (w.heap.size + 1), ptrV (w.heap.size + 1 + 1)] #[ptrV w.heap.size, ptrV (w.heap.size + 1), ptrV (w.heap.size + 1 + 1)] (errR d x y) (fun w => by kernel_rfl) (fun w => by kernel_rfl) (dn := doneD (powerD d) 4 x y 0 [])
    (fun _ => (Rename1_ok hA hx b1 b2 b3).mono fun r w' hr => by obtain ⟨rfl, rfl⟩ := hr; exact ⟨rfl, hA, Fr.refl _ _⟩)
    (fun _ _ w9 S9 h9 f9 => Rename2_ok h9 hx hy hc he (by have := (b1).fr f9 n1; rw [f9.g]; exact this) (by have := (b2).fr f9 n2; exact this) (by have := (b3).fr f9 n3; exact this))
  have edo : doD d 4 x y 0 [] = opD d (errR d x y) (doneD (powerD d) 4 x y 0 []) := doD_op (errR d x y) rfl
  rw [← edo] at hop
  clear edo
  have hfr : Fr w w3 S S := ⟨hg.os, hg.tape, hg.output, hg.size, fun k hk hn => hg.block k hk (by simp), rfl, fun k hk => .inl hk⟩
  have HO : Hid (Calls Try.prog 40 #[ptrV S.g, .func (.func 56) #[] #[ptrV w.heap.size, ptrV (w.heap.size + 1), ptrV (w.heap.size + 1 + 1)], .func (.func 57) #[] #[ptrV w.heap.size, ptrV (w.heap.size + 1), ptrV (w.heap.size + 1 + 1)]] w3 (fun r w' => r = .returned (.int .i64 (doD d 4 x y 0 []).2) ∧ Hid (OpPost w S (doD d 4 x y 0 []) (c + 1) e r w'))) := Lib.hid (hop.mono fun r w' hr => ⟨hr.1, Lib.hid ⟨hr.1, by obtain ⟨S', a, b⟩ := hr.2; exact ⟨S', a, hfr.trans b⟩⟩⟩)
  rw [e3, e2, e1] at HO
  clear hop hfr hA hg h b1 n1 b2 n2 b3 n3 hx hy
  clear s1 s2 s3
  subst e3 e2 e1
  generalize doD d 4 x y 0 [] = dd at *
  obtain ⟨dd, er⟩ := dd
  unfold ptrV at *
  go_enter Try.func21, Try.ntmps21
  go_wp2_with fail
  refine HO.out.mono ?_
  rintro r w' ⟨rfl, hS⟩
  go_wp2
  go_ret
  exact hS.out
end Go.Proofs.Ythogdieplfpopaa
