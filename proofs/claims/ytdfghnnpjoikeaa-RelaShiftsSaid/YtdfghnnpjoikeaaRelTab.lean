/-
  What is proved here: package rela's Put and Table: a relocation's 24 bytes; those that lie one behind the other, in new memory, or the error that the document names; the three words of one.
  Conditions: slices of at most 2^47 bytes.
-/
import Derived.Test.YtdfghnnpjoikeaaRelBase
import Derived.Test.YtdfghnnpjoikeaaRelChk
import Derived.Test.YtdfghnnpjoikeaaOSet
namespace Go.Proofs.Ytdfghnnpjoikeaa
open Go.RowKit
set_option linter.unusedVariables false
set_option linter.unusedSimpArgs false

theorem Blk.set {w : World} {g : Nat} {C : Array Value} {t : TypeId} (h : Blk w g C t) (i : Nat) (u : Value) : Blk (w.setCell ⟨g, i, none⟩ u) g (C.setIfInBounds i u) t := by
  unfold Blk at *
  simp [World.setCell, h, Array.getElem?_modify]
theorem Blk.setOther {w : World} {g : Nat} {C : Array Value} {t : TypeId} (h : Blk w g C t) {a : Addr} (ha : g ≠ a.block) (u : Value) : Blk (w.setCell a u) g C t := by
  unfold Blk at *
  rw [Below.heap_setCell _ _ _ _ ha, h]
theorem Blk.c3 {w : World} {g : Nat} {v0 v1 v2 : Value} {t : TypeId} (h : Blk w g #[v0, v1, v2] t) :
    w.cell? ⟨g, 0, none⟩ = some v0 ∧ w.cell? ⟨g, 1, none⟩ = some v1 ∧ w.cell? ⟨g, 2, none⟩ = some v2 := ⟨h.cell 0, h.cell 1, h.cell 2⟩
theorem Blk.f3 {w : World} {g : Nat} {v0 v1 v2 : Value} {t : TypeId} (h : Blk w g #[v0, v1, v2] t) :
    w.frozen? ⟨g, 0, none⟩ = false ∧ w.frozen? ⟨g, 1, none⟩ = false ∧ w.frozen? ⟨g, 2, none⟩ = false := ⟨h.frozen 0, h.frozen 1, h.frozen 2⟩
theorem Blk.grown {w w' : World} {g : Nat} {C : Array Value} {t : TypeId} {r : Option Nat} (h : Blk w g C t) (hg : w.grownBy w' r) (hr : some g ≠ r) : Blk w' g C t := by
  have hl := h.lt
  unfold Blk at *
  rw [hg.block g hl hr, h]
theorem piece_piece {zs : List Int} {p n q k : Nat} (h : q + k ≤ n) : piece (piece zs p n) q k = piece zs (p + q) k := by
  unfold piece
  rw [List.drop_take, List.take_take, List.drop_drop, Nat.min_eq_left (by omega)]
/-- The words that lie in the array when k of them are read. -/
def wordsAt (zs : List Int) (k : Nat) : Array Value := #[.int .u64 (if 0 < k then num (piece zs 0 8) else 0), .int .u64 (if 1 < k then num (piece zs 8 8) else 0), .int .u64 (if 2 < k then num (piece zs 16 8) else 0)]
set_option maxRecDepth 100000 in
set_option maxHeartbeats 1600000 in
/-- The three words that bytes begin with. -/
theorem lread_ok (B : Nat) (a : Option Addr) (len cap : Nat) (zs : List Int) (w : World) (hb : Bys w B a len zs) (hB : B ≤ w.heap.size) (hl : (len : Int) ≤ 9223372036854775807) (hs : 24 ≤ len) :
    Calls Try.prog 21 #[.slice a len cap] w fun r w' => r = .returned (.agg #[.int .u64 (num (piece zs 0 8)), .int .u64 (num (piece zs 8 8)), .int .u64 (num (piece zs 16 8))]) ∧ Below w.heap.size w w' := by
  have HB := Lib.hid hb
  obtain ⟨x0, h0⟩ : ∃ x, num (piece zs 0 8) = x := ⟨_, rfl⟩
  obtain ⟨x1, h1⟩ : ∃ x, num (piece zs 8 8) = x := ⟨_, rfl⟩
  obtain ⟨x2, h2⟩ : ∃ x, num (piece zs 16 8) = x := ⟨_, rfl⟩
  rw [h0, h1, h2]
  have HG : Hid (∀ w1, Below w.heap.size w w1 →
      Calls Try.prog 27 #[.slice a len cap, .int .u64 0, .int .i64 8] w1 (fun e w' => e = .returned (.tuple #[.int .u64 x0, .int .i64 0]) ∧ w1 = w') ∧
      Calls Try.prog 27 #[.slice a len cap, .int .u64 8, .int .i64 8] w1 (fun e w' => e = .returned (.tuple #[.int .u64 x1, .int .i64 0]) ∧ w1 = w') ∧
      Calls Try.prog 27 #[.slice a len cap, .int .u64 16, .int .i64 8] w1 (fun e w' => e = .returned (.tuple #[.int .u64 x2, .int .i64 0]) ∧ w1 = w')) := Lib.hid (fun w1 hw => by
    have hq := hb.below (hw.mono hB)
    rw [← h0, ← h1, ← h2]
    exact ⟨get_ok B a len cap zs 0 8 w1 hq (by decide) hl (by omega), get_ok B a len cap zs 8 8 w1 hq (by decide) hl (by omega), get_ok B a len cap zs 16 8 w1 hq (by decide) hl (by omega)⟩)
  have HL0 : Hid (Blk ((w.alloc (.cells #[.int .u64 0, .int .u64 0, .int .u64 0] 43)).alloc (.cells #[.int .u64 0, .int .u64 0, .int .u64 0] 43)) w.heap.size #[.int .u64 0, .int .u64 0, .int .u64 0] 43) := Lib.hid ((Blk.new w _ _).alloc _)
  have HL1 : Hid (Blk ((w.alloc (.cells #[.int .u64 0, .int .u64 0, .int .u64 0] 43)).alloc (.cells #[.int .u64 0, .int .u64 0, .int .u64 0] 43)) (w.heap.size + 1) #[.int .u64 0, .int .u64 0, .int .u64 0] 43) := Lib.hid (by
    have := Blk.new (w.alloc (.cells #[.int .u64 0, .int .u64 0, .int .u64 0] 43)) #[.int .u64 0, .int .u64 0, .int .u64 0] 43
    rw [World.size_alloc] at this; exact this)
  have HBL : Hid (Below w.heap.size w ((w.alloc (.cells #[.int .u64 0, .int .u64 0, .int .u64 0] 43)).alloc (.cells #[.int .u64 0, .int .u64 0, .int .u64 0] 43))) := Lib.hid (((Below.refl _ _).alloc (Nat.le_refl _) _).alloc (by simp) _)
  clear hb h0 h1 h2
  go_enter Try.func21, Try.ntmps21
  go_wp2
  go_loopw [4, 5] (fun _ i wr => ∃ k : Nat, k ≤ 3 ∧ i = .int .i64 k ∧ Blk wr w.heap.size #[.int .u64 0, .int .u64 0, .int .u64 0] 43 ∧ Blk wr (w.heap.size + 1) #[.int .u64 (if 0 < k then x0 else 0), .int .u64 (if 1 < k then x1 else 0), .int .u64 (if 2 < k then x2 else 0)] 43 ∧ Below w.heap.size w wr) (fun _ i _ => 3 - (intOf i).toNat)
  case atStart => exact ⟨0, Nat.zero_le _, rfl, HL0.out, HL1.out, HBL.out⟩
  case round =>
    obtain ⟨k, hk, rfl, hr, hx, hbel⟩ := hrel
    have hor : k = 0 ∨ k = 1 ∨ k = 2 ∨ k = 3 := by omega
    obtain ⟨G0, G1, G2⟩ := HG.out _ hbel
    have hbs := hbel.size
    rcases hor with rfl | rfl | rfl | rfl
    · rw [show ((0 : Nat) : Int) = 0 from rfl]
      have hx' : Blk wr (w.heap.size + 1) #[.int .u64 0, .int .u64 0, .int .u64 0] 43 := hx
      obtain ⟨c0, c1, c2⟩ := hx'.c3
      obtain ⟨f0, f1, f2⟩ := hx'.f3
      have HR := Lib.hid (hr.setOther (a := ⟨w.heap.size + 1, 0, none⟩) (Nat.ne_of_lt (Nat.lt_succ_self _)) (.int .u64 x0))
      have HX := Lib.hid (hx'.set 0 (.int .u64 x0))
      have HE := Lib.hid (hbel.setCell (p := ⟨w.heap.size + 1, 0, none⟩) (Nat.le_succ _) (.int .u64 x0))
      have H0 := Lib.hid G0
      clear hr hx hx' hbel G0 G1 G2
      go_wp2_with (go_at_call 27; with_reducible refine H0.out.mono ?_; rintro e w' ⟨rfl, rfl⟩)
      go_roundw
      case rel => exact ⟨1, by omega, by go_num, HR.out, HX.out, HE.out⟩
      case measure => (simp [intOf] <;> omega)
    · rw [show ((1 : Nat) : Int) = 1 from rfl]
      have hx' : Blk wr (w.heap.size + 1) #[.int .u64 x0, .int .u64 0, .int .u64 0] 43 := hx
      obtain ⟨c0, c1, c2⟩ := hx'.c3
      obtain ⟨f0, f1, f2⟩ := hx'.f3
      have HR := Lib.hid (hr.setOther (a := ⟨w.heap.size + 1, 1, none⟩) (Nat.ne_of_lt (Nat.lt_succ_self _)) (.int .u64 x1))
      have HX := Lib.hid (hx'.set 1 (.int .u64 x1))
      have HE := Lib.hid (hbel.setCell (p := ⟨w.heap.size + 1, 1, none⟩) (Nat.le_succ _) (.int .u64 x1))
      have H0 := Lib.hid G1
      clear hr hx hx' hbel G0 G1 G2
      go_wp2_with (go_at_call 27; with_reducible refine H0.out.mono ?_; rintro e w' ⟨rfl, rfl⟩)
      go_roundw
      case rel => exact ⟨2, by omega, by go_num, HR.out, HX.out, HE.out⟩
      case measure => (simp [intOf] <;> omega)
    · rw [show ((2 : Nat) : Int) = 2 from rfl]
      have hx' : Blk wr (w.heap.size + 1) #[.int .u64 x0, .int .u64 x1, .int .u64 0] 43 := hx
      obtain ⟨c0, c1, c2⟩ := hx'.c3
      obtain ⟨f0, f1, f2⟩ := hx'.f3
      have HR := Lib.hid (hr.setOther (a := ⟨w.heap.size + 1, 2, none⟩) (Nat.ne_of_lt (Nat.lt_succ_self _)) (.int .u64 x2))
      have HX := Lib.hid (hx'.set 2 (.int .u64 x2))
      have HE := Lib.hid (hbel.setCell (p := ⟨w.heap.size + 1, 2, none⟩) (Nat.le_succ _) (.int .u64 x2))
      have H0 := Lib.hid G2
      clear hr hx hx' hbel G0 G1 G2
      go_wp2_with (go_at_call 27; with_reducible refine H0.out.mono ?_; rintro e w' ⟨rfl, rfl⟩)
      go_roundw
      case rel => exact ⟨3, by omega, by go_num, HR.out, HX.out, HE.out⟩
      case measure => (simp [intOf] <;> omega)
    · rw [show ((3 : Nat) : Int) = 3 from rfl]
      have hx' : Blk wr (w.heap.size + 1) #[.int .u64 x0, .int .u64 x1, .int .u64 x2] 43 := hx
      obtain ⟨c0, c1, c2⟩ := hx'.c3
      obtain ⟨q0, q1, q2⟩ := hr.c3
      obtain ⟨f0, f1, f2⟩ := hr.f3
      have HE := Lib.hid hbel
      clear hr hx hx' hbel G0 G1 G2
      go_wp2
      refine bodyPost_ret (v := .agg #[.int .u64 x0, .int .u64 x1, .int .u64 x2]) (by simp [results, Try.results21, go_sem, q0, q1, q2]) rfl ⟨rfl, ?_⟩
      exact ((HE.out.setCell (Nat.le_refl _) _).setCell (Nat.le_refl _) _).setCell (Nat.le_refl _) _

/-- The symbol above, the type below. -/
theorem info_or {ty sy : Int} (t0 : 0 ≤ ty) (t1 : ty ≤ 4294967295) (s0 : 0 ≤ sy) (s1 : sy ≤ 4294967295) : bits .or .u64 (sy * 4294967296) ty = ty + sy * 4294967296 := by
  obtain ⟨ty, rfl⟩ := Int.eq_ofNat_of_zero_le t0
  obtain ⟨sy, rfl⟩ := Int.eq_ofNat_of_zero_le s0
  have e : ((sy : Int) * 4294967296) = ((sy * 4294967296 : Nat) : Int) := by omega
  rw [e, u64_or_nat _ _ (by omega) (by omega), nat_join 32 (sy * 4294967296) ty (Nat.mul_mod_left _ _) (by omega)]
  omega
set_option maxHeartbeats 800000 in
/-- The words of an entry. -/
theorem lwords_ok (s : Rl) (w : World) (h : s.Ok) :
    Calls Try.prog 18 #[s.val] w fun r w' => r = .returned (.agg #[.int .u64 s.of, .int .u64 (infoL s), .int .u64 (IntKind.u64.wrap s.ad)]) ∧ Below w.heap.size w w' := by
  obtain ⟨⟨a0, a1⟩, ⟨b0, b1⟩, ⟨c0, c1⟩, ⟨d0, d1⟩⟩ := h
  obtain ⟨of, ty, sy, ad⟩ := s
  unfold Rl.val infoL
  simp only at *
  have HBL2 : Hid (∀ o o', Below w.heap.size w ((w.alloc o).alloc o')) := Lib.hid (fun o o' => ((Below.refl _ _).alloc (Nat.le_refl _) o).alloc (by simp) o')
  have HOR := Lib.hid (info_or b0 b1 c0 c1)
  go_enter Try.func18, Try.ntmps18
  go_wp2
  refine bodyPost_ret (v := .agg #[.int .u64 of, .int .u64 (ty + sy * 4294967296), .int .u64 (IntKind.u64.wrap ad)]) (by simp [results, Try.results18, go_sem]; exact HOR.out) rfl ⟨rfl, ?_⟩
  exact HBL2.out _ _
set_option maxHeartbeats 800000 in
/-- The entry of three words. -/
theorem lentry_ok (x0 x1 x2 : Int) (w : World) (a0 : 0 ≤ x0) (a1 : x0 ≤ 18446744073709551615) (b0 : 0 ≤ x1) (b1 : x1 ≤ 18446744073709551615) (c0 : 0 ≤ x2) (c1 : x2 ≤ 18446744073709551615) :
    Calls Try.prog 20 #[.agg #[.int .u64 x0, .int .u64 x1, .int .u64 x2]] w fun r w' => r = .returned (Rl.val ⟨x0, x1 % 4294967296, x1 / 4294967296, IntKind.i64.wrap x2⟩) ∧ Below w.heap.size w w' := by
  have HBL2 : Hid (∀ o o', Below w.heap.size w ((w.alloc o).alloc o')) := Lib.hid (fun o o' => ((Below.refl _ _).alloc (Nat.le_refl _) o).alloc (by simp) o')
  unfold Rl.val
  simp only
  go_enter Try.func20, Try.ntmps20
  go_wp2
  refine bodyPost_ret (v := .agg #[.int .u64 x0, .int .u32 (x1 % 4294967296), .int .u32 (x1 / 4294967296), .int .i64 (IntKind.i64.wrap x2)]) (by simp [results, Try.results20, go_sem]; exact (IntWalk.i64_left _).symm) rfl ⟨rfl, ?_⟩
  exact HBL2.out _ _

theorem setB_fill {A : List Int} {m p k : Nat} (x : Int) (hp : A.length = p) : setB (A ++ List.replicate m 0) p x k = (A ++ digs x k) ++ List.replicate (m - k) 0 := by
  subst hp
  unfold setB
  rw [List.take_left, List.drop_append]
  rw [List.drop_eq_nil_of_le (by omega), List.nil_append, Nat.add_sub_cancel_left, List.drop_replicate, List.append_assoc]
theorem digs_more {A : List Int} (x : Int) (k : Nat) (h : ∀ n ∈ A, 0 ≤ n ∧ n ≤ 255) : ∀ n ∈ A ++ digs x k, 0 ≤ n ∧ n ≤ 255 := by
  intro n hn
  rcases List.mem_append.1 hn with h1 | h1
  · exact h n h1
  · exact digs_bd x k n h1
theorem noughts_more {A : List Int} (m : Nat) (h : ∀ n ∈ A, 0 ≤ n ∧ n ≤ 255) : ∀ n ∈ A ++ List.replicate m 0, 0 ≤ n ∧ n ≤ 255 := by
  intro n hn
  rcases List.mem_append.1 hn with h1 | h1
  · exact h n h1
  · rw [List.eq_of_mem_replicate h1]; decide
/-- Setting the next eight bytes. -/
theorem lset_next (base : Nat) (g : Nat) (A : List Int) (x : Int) (w : World) (p : Nat) (hp : A.length = p) (hA : ∀ n ∈ A, 0 ≤ n ∧ n ≤ 255) (ho : w.ownsRow base 5 1 (.slice (some ⟨g, 0, none⟩) 24 24) 24 ((A ++ List.replicate (24 - p) 0).map (Value.int .u8))) (hb : base ≤ w.heap.size) (hs : p + 8 ≤ 24) (x0 : 0 ≤ x) (x1 : x ≤ 18446744073709551615) :
    Calls Try.prog 19 #[.slice (some ⟨g, 0, none⟩) 24 24, .int .u64 p, .int .i64 8, .int .u64 x] w fun r w' => (∃ g', r = .returned (.tuple #[.slice (some ⟨g', 0, none⟩) 24 24, .int .i64 0]) ∧ w'.ownsRow base 5 1 (.slice (some ⟨g', 0, none⟩) 24 24) 24 (((A ++ digs x 8) ++ List.replicate (24 - (p + 8)) 0).map (Value.int .u8))) ∧ Below base w w' := by
  have h := set_ok w.heap.size (some ⟨g, 0, none⟩) 24 24 _ p 8 x w (Bys.own (noughts_more _ hA) ho) (Nat.le_refl _) (by decide) (by decide) hs x0 x1
  rw [setB_fill x hp] at h
  refine h.mono ?_
  rintro r w' ⟨rfl, hown, hbel⟩
  refine ⟨⟨_, rfl, ?_⟩, hbel.mono hb⟩
  rw [Nat.sub_sub] at hown
  exact own_base hown hb
/-- The bytes when k words are written. -/
def putAt (s : Rl) : Nat → List Int
  | 0 => []
  | 1 => digs s.of 8
  | 2 => digs s.of 8 ++ digs (infoL s) 8
  | _ => digs s.of 8 ++ digs (infoL s) 8 ++ digs (IntKind.u64.wrap s.ad) 8
theorem putAt_len (s : Rl) : ∀ k, k ≤ 3 → (putAt s k).length = 8 * k
  | 0, _ => rfl
  | 1, _ => by simp [putAt, digs_len]
  | 2, _ => by simp [putAt, digs_len]
  | 3, _ => by simp [putAt, digs_len]
theorem putAt_bd (s : Rl) : ∀ k, k ≤ 3 → ∀ n ∈ putAt s k, 0 ≤ n ∧ n ≤ 255
  | 0, _ => fun n h => by cases h
  | 1, _ => digs_bd _ _
  | 2, _ => digs_more _ _ (digs_bd _ _)
  | 3, _ => digs_more _ _ (digs_more _ _ (digs_bd _ _))
set_option maxRecDepth 100000 in
set_option maxHeartbeats 1600000 in
theorem lput_ok (s : Rl) (w : World) (h : s.Ok) :
    Calls Try.prog 10 #[s.val] w fun r w' => (∃ u, r = .returned u ∧ Made (encL s) u w') ∧ Below w.heap.size w w' := by
  obtain ⟨i0, hi, hz0, hz1, hz2⟩ := info_parts info_u8
  have HI := Lib.hid hi
  have HZ0 := Lib.hid hz0
  have HZ1 := Lib.hid hz1
  have HZ2 := Lib.hid hz2
  have HE : Hid (putAt s 3 = encL s) := Lib.hid (by simp [putAt, encL])
  have HEB := Lib.hid (encL_bd s)
  have HEL := Lib.hid (encL_len s)
  have HL := Lib.hid (putAt_len s)
  have HD := Lib.hid (putAt_bd s)
  have i0' : 0 ≤ infoL s := by unfold infoL; have := h.ty; have := h.sy; omega
  have i1' : infoL s ≤ 18446744073709551615 := by unfold infoL; have := h.ty; have := h.sy; omega
  have u0 : 0 ≤ IntKind.u64.wrap s.ad := by rw [IntKind.wrap_u64]; omega
  have u1 : IntKind.u64.wrap s.ad ≤ 18446744073709551615 := by rw [IntKind.wrap_u64]; omega
  have HW := Lib.hid (fun w1 => lwords_ok s w1 h)
  have HP0 : Hid (putAt s 0 = []) := Lib.hid rfl
  have H1 : Hid (putAt s 1 = putAt s 0 ++ digs s.of 8) := Lib.hid rfl
  have H2 : Hid (putAt s 2 = putAt s 1 ++ digs (infoL s) 8) := Lib.hid rfl
  have H3 : Hid (putAt s 3 = putAt s 2 ++ digs (IntKind.u64.wrap s.ad) 8) := Lib.hid rfl
  obtain ⟨o0, o1⟩ := h.of
  generalize hP : putAt s = P at *
  generalize encL s = zs at *
  generalize infoL s = y at *
  generalize IntKind.u64.wrap s.ad = z at *
  clear h hi hz0 hz1 hz2 hP
  obtain ⟨of, ty, sy, ad⟩ := s
  unfold Rl.val at *
  simp only at *
  go_enter Try.func10, Try.ntmps10
  go_wp2_with (at_make; refine wpList_make_full _ rfl _ _ 27 rfl (w.heap.size + 1) 5 i0 (.int .u8 0) 1 Try.underlying27 HI.out HZ0.out HZ1.out .i64 .i64 _ _ 24 rfl rfl rfl rfl ?c1 ?c2 ?c3 ?_)
  case c1 => rw [HZ2.out]; omega
  case c2 => unfold maxLen; omega
  case c3 => simp
  intro w1 hown hg
  have hb1 : Below w.heap.size w w1 := ((Below.refl _ _).alloc (Nat.le_refl _) _).grown hg (by simp) (fun _ e => by cases e)
  have hbx := (Blk.new w #[.int .u64 of, .int .u32 ty, .int .u32 sy, .int .i64 ad] 25).grown hg (by simp)
  obtain ⟨q0, q1, q2, q3⟩ := Rl.cs hbx
  have hgb : w.heap.size ≤ w1.heap.size := hb1.size
  have HO0 : Hid (∃ g, (Value.slice (some ⟨w.heap.size + 1, 0, none⟩) 24 24) = .slice (some ⟨g, 0, none⟩) 24 24 ∧ w1.ownsRow w.heap.size 5 1 (.slice (some ⟨g, 0, none⟩) 24 24) 24 ((P 0 ++ List.replicate (24 - 8 * 0) 0).map (Value.int .u8))) := Lib.hid (by
    rw [toList_madeCells_one] at hown
    have e : (P 0 ++ List.replicate (24 - 8 * 0) (0 : Int)).map (Value.int .u8) = List.replicate 24 (.int .u8 0) := by rw [HP0.out]; simp
    rw [e]
    exact ⟨_, rfl, own_base hown (Nat.le_succ _)⟩)
  have HB1 := Lib.hid hb1
  clear hown hg hb1 hbx
  go_wp2_with fail
  refine (HW.out _).mono ?_
  rintro r w2 ⟨rfl, hb2⟩
  have HB2 := Lib.hid (HB1.out.trans (hb2.mono hgb))
  have HO2 : Hid (∃ g, (Value.slice (some ⟨w.heap.size + 1, 0, none⟩) 24 24) = .slice (some ⟨g, 0, none⟩) 24 24 ∧ w2.ownsRow w.heap.size 5 1 (.slice (some ⟨g, 0, none⟩) 24 24) 24 ((P 0 ++ List.replicate (24 - 8 * 0) 0).map (Value.int .u8))) := Lib.hid (by
    obtain ⟨g, e, h⟩ := HO0.out
    exact ⟨g, e, own_below h hb2⟩)
  clear hb2 q0 q1 q2 q3 HO0
  have ia0 : ∀ w, (Instr.index 43 (.agg #[.int .u64 of, .int .u64 y, .int .u64 z]) (.int .i64 0)).run Try.prog w = .ok (.int .u64 of) w := fun _ => by kernel_rfl
  have ia1 : ∀ w, (Instr.index 43 (.agg #[.int .u64 of, .int .u64 y, .int .u64 z]) (.int .i64 1)).run Try.prog w = .ok (.int .u64 y) w := fun _ => by kernel_rfl
  have ia2 : ∀ w, (Instr.index 43 (.agg #[.int .u64 of, .int .u64 y, .int .u64 z]) (.int .i64 2)).run Try.prog w = .ok (.int .u64 z) w := fun _ => by kernel_rfl
  go_wp2
  go_loopw [3, 4, 5, 9] (fun b _ _ i wr => ∃ k g : Nat, k ≤ 3 ∧ i = .int .i64 k ∧ b = .slice (some ⟨g, 0, none⟩) 24 24 ∧ wr.ownsRow w.heap.size 5 1 (.slice (some ⟨g, 0, none⟩) 24 24) 24 ((P k ++ List.replicate (24 - 8 * k) 0).map (Value.int .u8)) ∧ Below w.heap.size w wr) (fun _ _ _ i _ => 3 - (intOf i).toNat)
  case atStart =>
    obtain ⟨g, e, h⟩ := HO2.out
    exact ⟨0, g, Nat.zero_le _, rfl, e, h, HB2.out⟩
  case round =>
    obtain ⟨k, g, hk, rfl, rfl, hown, hbel⟩ := hrel
    have hor : k = 0 ∨ k = 1 ∨ k = 2 ∨ k = 3 := by omega
    rcases hor with rfl | rfl | rfl | rfl
    · have HS := Lib.hid (lset_next w.heap.size g (P 0) of wr 0 (HL.out 0 (by decide)) (HD.out 0 (by decide)) hown hbel.size (by decide) o0 o1)
      rw [show ((0 : Nat) : Int) = 0 from rfl]
      have HBE := Lib.hid hbel
      clear hown hbel
      go_wp2_with (go_at_call 19; refine HS.out.mono ?_; rintro r w3 ⟨⟨g', rfl, ho⟩, hb3⟩)
      have HO3 := Lib.hid ho
      have HB3 := Lib.hid (HBE.out.trans hb3)
      clear ho hb3
      go_wp2
      go_roundw
      case rel => exact ⟨1, g', by omega, by go_num, rfl, by rw [H1.out]; exact HO3.out, HB3.out⟩
      case measure => (simp [intOf] <;> omega)
    · have HS := Lib.hid (lset_next w.heap.size g (P 1) y wr 8 (HL.out 1 (by decide)) (HD.out 1 (by decide)) hown hbel.size (by decide) i0' i1')
      rw [show ((1 : Nat) : Int) = 1 from rfl]
      have HBE := Lib.hid hbel
      clear hown hbel
      go_wp2_with (go_at_call 19; refine HS.out.mono ?_; rintro r w3 ⟨⟨g', rfl, ho⟩, hb3⟩)
      have HO3 := Lib.hid ho
      have HB3 := Lib.hid (HBE.out.trans hb3)
      clear ho hb3
      go_wp2
      go_roundw
      case rel => exact ⟨2, g', by omega, by go_num, rfl, by rw [H2.out]; exact HO3.out, HB3.out⟩
      case measure => (simp [intOf] <;> omega)
    · have HS := Lib.hid (lset_next w.heap.size g (P 2) z wr 16 (HL.out 2 (by decide)) (HD.out 2 (by decide)) hown hbel.size (by decide) u0 u1)
      rw [show ((2 : Nat) : Int) = 2 from rfl]
      have HBE := Lib.hid hbel
      clear hown hbel
      go_wp2_with (go_at_call 19; refine HS.out.mono ?_; rintro r w3 ⟨⟨g', rfl, ho⟩, hb3⟩)
      have HO3 := Lib.hid ho
      have HB3 := Lib.hid (HBE.out.trans hb3)
      clear ho hb3
      go_wp2
      go_roundw
      case rel => exact ⟨3, g', by omega, by go_num, rfl, by rw [H3.out]; exact HO3.out, HB3.out⟩
      case measure => (simp [intOf] <;> omega)
    · rw [show ((3 : Nat) : Int) = 3 from rfl]
      have HO3 := Lib.hid hown
      have HBE := Lib.hid hbel
      clear hown hbel
      go_wp2
      go_ret
      refine ⟨⟨_, rfl, ?_⟩, HBE.out⟩
      have h := HO3.out
      rw [HE.out] at h
      have e : (zs ++ List.replicate (24 - 8 * 3) (0 : Int)) = zs := by simp
      rw [e, ← HEL.out] at h
      exact own_made (by rw [HEL.out] at h ⊢; exact h) (by rw [HEL.out]; decide) HEB.out

def slenL : Value → Nat
  | .slice _ m _ => m
  | _ => 0
set_option maxRecDepth 100000 in
set_option maxHeartbeats 3200000 in
theorem ltable_any (B : Nat) (a : Option Addr) (len cap : Nat) (zs : List Int) (w : World) (hb : Bys w B a len zs) (hB : B ≤ w.heap.size) (hl : len ≤ 140737488355328) (hcap : len ≤ cap) (hcm : (cap : Int) ≤ 9223372036854775807) :
    Calls Try.prog 11 #[.slice a len cap] w fun r w' => (∃ u, r = .returned (.tuple #[u, .int .i64 (tabL zs).1]) ∧ w'.ownsRow w.heap.size 25 4 u (tabL zs).2.length (Rl.flat (tabL zs).2)) ∧ Below w.heap.size w w' := by
  obtain ⟨i0, hi, hz0, hz1, hz2⟩ := info_parts info_rel
  have HI := Lib.hid hi
  have HZ0 := Lib.hid hz0
  have HZ1 := Lib.hid hz1
  have HZ2 := Lib.hid hz2
  have HZB := Lib.hid hb.2.1
  have HZL := Lib.hid hb.1
  have HBY := Lib.hid hb
  have hli : (len : Int) ≤ 140737488355328 := by omega
  obtain ⟨g0, off, HA⟩ : ∃ g0 off, Hid (0 < len → a = some ⟨g0, off, none⟩ ∧ g0 < B) := by
    by_cases h0 : 0 < len
    · obtain ⟨b, off, e, h1, _⟩ := hb.2.2 h0
      exact ⟨b, off, Lib.hid (fun _ => ⟨e, h1⟩)⟩
    · exact ⟨0, 0, Lib.hid (fun h => absurd h h0)⟩
  clear hi hz0 hz1 hz2
  by_cases hm : len % 24 = 0
  · have HR : Hid (tabL zs = (0, tabR zs (len / 24))) := Lib.hid (by unfold tabL; rw [HZL.out, if_pos hm])
    rw [HR.out]
    have hmi : (len : Int) % 24 = 0 := by omega
    have HTL := Lib.hid (tabR_len zs (len / 24))
    obtain ⟨n, hn⟩ : ∃ n, len / 24 = n := ⟨_, rfl⟩
    have hni : (len : Int) / 24 = (n : Int) := by omega
    rw [hn] at HTL HR ⊢
    have hln1 : len ≤ 24 * n := by omega
    have hln2 : 24 * n ≤ len := by omega
    clear hb hn hm
    go_enter Try.func11, Try.ntmps11
    go_wp2_with (at_make; refine wpList_make_own _ rfl _ _ 29 rfl w.heap.size 25 i0 _ 4 Try.underlying29 HI.out HZ0.out HZ1.out .i64 .i64 _ n rfl rfl rfl ?c1 ?c2 ?c3 ?_)
    case c1 => rw [HZ2.out]; omega
    case c2 => unfold maxLen; omega
    case c3 => exact Nat.le_refl _
    intro w1 hown1 hg1
    have hbw1 : Below w.heap.size w w1 := (Below.refl _ _).grown hg1 (Nat.le_refl _) (fun _ e => by cases e)
    have HO1 := Lib.hid hown1
    have HB1 := Lib.hid hbw1
    clear hown1 hg1 hbw1
    go_wp2
    go_loopw [0, 4] (fun b v wr => ∃ (k m cp : Nat) (ad : Option Addr), b = .slice ad m cp ∧ 24 * k + m = len ∧ 24 * k + cp = cap ∧ (0 < m → ad = some ⟨g0, off + 24 * k, none⟩) ∧ wr.ownsRow w.heap.size 25 4 v k (Rl.flat (tabR zs k)) ∧ Below w.heap.size w wr) (fun b _ _ => slenL b)
    case atStart => exact ⟨0, len, cap, a, rfl, by omega, by omega, fun h => (HA.out h).1, HO1.out, HB1.out⟩
    case round =>
      obtain ⟨k, m, cp, ad, rfl, hm, hcp, had, hown, hbel⟩ := hrel
      have hbs := hbel.size
      have HOW := Lib.hid hown
      have HBE := Lib.hid hbel
      by_cases hlt : 0 < m
      · obtain rfl := had hlt
        have hmm : 24 ≤ m := by omega
        have hmi2 : (0 : Int) < m := by omega
        have hmi3 : (24 : Int) ≤ m := by omega
        have hcpi : (m : Int) ≤ cp := by omega
        have hcpm : (cp : Int) ≤ 9223372036854775807 := by omega
        have hrd : 24 * k + 24 ≤ zs.length := by have := HZL.out; omega
        have HBYW : Hid (Bys wr B (some ⟨g0, off + 24 * k, none⟩) m (piece zs (24 * k) m)) := Lib.hid (by
          have h := HBY.out.below (hbel.mono hB)
          rw [(HA.out (by omega)).1] at h
          exact h.sub (by omega))
        obtain ⟨x0, hx0⟩ : ∃ x, num (piece zs (24 * k) 8) = x := ⟨_, rfl⟩
        obtain ⟨x1, hx1⟩ : ∃ x, num (piece zs (24 * k + 8) 8) = x := ⟨_, rfl⟩
        obtain ⟨x2, hx2⟩ : ∃ x, num (piece zs (24 * k + 16) 8) = x := ⟨_, rfl⟩
        have HRD : Hid (Calls Try.prog 21 #[.slice (some ⟨g0, off + 24 * k, none⟩) m cp] wr fun r w' => r = .returned (.agg #[.int .u64 x0, .int .u64 x1, .int .u64 x2]) ∧ Below wr.heap.size wr w') := Lib.hid (by
          have h := lread_ok B _ m cp _ wr HBYW.out (Nat.le_trans hB hbs) (by omega) hmm
          rw [piece_piece (by omega), piece_piece (by omega), piece_piece (by omega), Nat.add_zero, hx0, hx1, hx2] at h
          exact h)
        have HTS : Hid (tabR zs (k + 1) = tabR zs k ++ [⟨x0, x1 % 4294967296, x1 / 4294967296, IntKind.i64.wrap x2⟩]) := Lib.hid (by
          rw [tabR_succ, ← hx0, ← hx1, ← hx2]; rfl)
        have hbd : ∀ {p : Nat}, p + 8 ≤ zs.length → 0 ≤ num (piece zs p 8) ∧ num (piece zs p 8) ≤ 18446744073709551615 := fun {p} hp => by
          have := num_piece_lt (p := p) (k := 8) HZB.out hp
          omega
        obtain ⟨p0, p1⟩ := hbd (p := 24 * k) (by omega)
        obtain ⟨p2, p3⟩ := hbd (p := 24 * k + 8) (by omega)
        obtain ⟨p4, p5⟩ := hbd (p := 24 * k + 16) (by omega)
        rw [hx0] at p0 p1
        rw [hx1] at p2 p3
        rw [hx2] at p4 p5
        have HEN := Lib.hid (fun w1 => lentry_ok x0 x1 x2 w1 p0 p1 p2 p3 p4 p5)
        unfold Rl.val at HEN
        simp only at HEN
        have HOC := Lib.hid (one_cells ⟨x0, x1 % 4294967296, x1 / 4294967296, IntKind.i64.wrap x2⟩)
        generalize IntKind.i64.wrap x2 = ad at HEN HOC HTS
        generalize x1 % 4294967296 = ty at HEN HOC HTS
        generalize x1 / 4294967296 = sy at HEN HOC HTS
        have hkn : (k : Int) ≤ 140737488355328 := by omega
        clear hown hbel hx0 hx1 hx2 p0 p1 p2 p3 p4 p5 hbd HBYW hrd
        go_wp2_with fail
        refine HRD.out.mono ?_
        rintro r w2 ⟨rfl, hb2⟩
        have hsz2 := hb2.size
        have HB2 := Lib.hid (HBE.out.trans (hb2.mono hbs))
        have HO2 := Lib.hid (Rl.own_below HOW.out hb2)
        clear hb2
        go_wp2_with fail
        refine (HEN.out _).mono ?_
        rintro r w3 ⟨rfl, hb3⟩
        have HO3 := Lib.hid (Rl.own_below HO2.out hb3)
        have HB3 := Lib.hid (HB2.out.trans (hb3.mono HB2.out.size))
        clear hb3
        go_wp2_with (at_builtin; refine wpList_append_own _ rfl _ _ 29 rfl w.heap.size 25 i0 _ 4 24 Try.underlying29 HI.out HZ0.out HZ1.out HZ2.out rfl (by decide) _ k _ rfl (HO3.out.alloc _) ⟨w3.heap.size, 0, none⟩ 1 1 [.int .u64 x0, .int .u32 ty, .int .u32 sy, .int .i64 ad] rfl rfl ?d1 ?d2 ?d3 ?d4 ?d5 ?_)
        case d1 => exact cells_new w3 [.int .u64 x0, .int .u32 ty, .int .u32 sy, .int .i64 ad] _ _ rfl
        case d2 => exact HOC.out
        case d3 => unfold maxLen; omega
        case d4 => omega
        case d5 => have := HB3.out.size; simp; omega
        intro v4 w4 hown4 hg4 _
        have HO4 : Hid (w4.ownsRow w.heap.size 25 4 v4 (k + 1) (Rl.flat (tabR zs (k + 1)))) := Lib.hid (by rw [HTS.out, Rl.flat_snoc]; exact hown4)
        have hb4 : Below w.heap.size w w4 := (HB3.out.alloc HB3.out.size _).grown hg4 (by have := HB3.out.size; simp; omega) (fun q e => (HO3.out.lt q e).1)
        clear hown4 hg4
        go_wp2
        go_roundw
        case rel => exact ⟨k + 1, m - 24, cp - 24, _, rfl, by omega, by omega, fun h => by rw [if_neg (by omega), show off + 24 * k + 24 = off + 24 * (k + 1) by omega], HO4.out, hb4⟩
        case measure => (simp [slenL] <;> omega)
      · obtain rfl : m = 0 := by omega
        have hkn : k = n := by omega
        have HO2 : Hid (wr.ownsRow w.heap.size 25 4 _ (tabR zs n).length (Rl.flat (tabR zs n))) := Lib.hid (by rw [HTL.out, ← hkn]; exact hown)
        clear hown hbel hkn
        go_wp2
        go_ret2
        exact ⟨⟨_, rfl, HO2.out⟩, HBE.out⟩
  · have HR : Hid (tabL zs = (10, [])) := Lib.hid (by unfold tabL; rw [HZL.out, if_neg hm])
    rw [HR.out]
    have hmb : ((len : Int) % 24 != 0) = true := by
      rw [bne_iff_ne]; omega
    clear hb hm
    go_enter Try.func11, Try.ntmps11
    go_wp2
    go_ret2
    exact ⟨⟨_, rfl, World.ownsRow_nil _ _ _ _⟩, Below.refl _ _⟩
end Go.Proofs.Ytdfghnnpjoikeaa
