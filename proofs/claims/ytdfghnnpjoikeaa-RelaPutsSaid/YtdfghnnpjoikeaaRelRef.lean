/-
  What is proved here: the reference of rela: Put, Table, Known, Value.
  Conditions: none but that the arguments are values of their types; Table: slices of at most 2^47 bytes.
-/
import Derived.Test.YtdfghnnpjoikeaaRelMath
import Derived.Test.YtdfghnnpjoikeaaBaseP
import Derived.Test.YtdfghnnpjoikeaaApp
import Derived.Test.YtdfghnnpjoikeaaORGet
namespace Go.Proofs.Ytdfghnnpjoikeaa
open Go.RowKit
set_option linter.unusedVariables false
set_option linter.unusedSimpArgs false

theorem ret_i64 {a b : Int} (h : a = b) : Ending.returned (.int .i64 a) = .returned (.int .i64 b) := by rw [h]
set_option maxRecDepth 100000 in
set_option maxHeartbeats 800000 in
theorem eight7_ok (base : Nat) (v : Value) (m : Nat) (zs : List Int) (x : Int) (w : World) (ho : w.ownsRow base 5 1 v m (zs.map (Value.int .u8))) (hbase : base ≤ w.heap.size) (hm : m ≤ 1000000) (x0 : 0 ≤ x) (x1 : x ≤ 18446744073709551615) :
    Calls Try.prog 22 #[v, .int .u64 x] w fun r w' => ∃ v', r = .returned v' ∧ w'.ownsRow base 5 1 v' (m + 8) ((zs ++ digs x 8).map (Value.int .u8)) ∧ Below base w w' := by
  obtain ⟨i0, hi, hz0, hz1, hz2⟩ := info_parts info_u8
  have HO := Lib.hid ho
  have HI := Lib.hid hi
  have HZ0 := Lib.hid hz0
  have HZ1 := Lib.hid hz1
  have HZ2 := Lib.hid hz2
  clear ho hi hz0 hz1 hz2
  go_enter Try.func22, Try.ntmps22
  go_wp2
  go_loopw [0, 1, 5] (fun v' y i wr => ∃ k : Nat, k ≤ 8 ∧ i = .int .i64 k ∧ y = .int .u64 (x / 256 ^ k) ∧ wr.ownsRow base 5 1 v' (m + k) ((zs ++ digs x k).map (Value.int .u8)) ∧ Below base w wr) (fun _ _ i _ => 8 - (intOf i).toNat)
  case atStart => exact ⟨0, Nat.zero_le _, rfl, by simp, by simpa [digs] using HO.out, Below.refl _ _⟩
  case round =>
    obtain ⟨k, hk, rfl, rfl, hown, hbel⟩ := hrel
    by_cases hlt : k < 8
    · have hdv := Lib.hid (div_step x k)
      have hdg : Hid (digs x (k + 1) = digs x k ++ [x / 256 ^ k % 256]) := Lib.hid rfl
      have hy0 : 0 ≤ x / 256 ^ k := Int.ediv_nonneg x0 (Int.pow_nonneg (by decide))
      have hy1 : x / 256 ^ k ≤ 18446744073709551615 := Int.le_trans (Int.ediv_le_self _ x0) x1
      have hki : (k : Int) < 8 := by omega
      generalize x / 256 ^ k = y at hdv hdg hy0 hy1 ⊢
      have hsz := hbel.size
      have HOWN := Lib.hid hown
      clear hown
      go_wp2_with (at_builtin; refine wpList_append_own _ rfl _ _ 27 rfl base 5 i0 (.int .u8 0) 1 1 Try.underlying27 HI.out HZ0.out HZ1.out HZ2.out rfl (by decide) _ (m + k) _ rfl (HOWN.out.alloc _) ⟨wr.heap.size, 0, none⟩ 1 1 [.int .u8 (y % 256)] rfl rfl ?c1 ?c2 ?c3 ?c4 ?c5 ?_)
      case c1 => exact cell_one_new _ _ _
      case c2 => intro u hu; obtain rfl := List.mem_singleton.1 hu; rfl
      case c3 => unfold maxLen; omega
      case c4 => omega
      case c5 => simp; omega
      intro v2 w2 hown2 hg2 hnil2
      have hb2 : Below base w w2 := (hbel.alloc (by omega) _).grown hg2 (by simp; omega) (fun q e => (HOWN.out.lt q e).1)
      have HO2 : Hid (w2.ownsRow base 5 1 v2 (m + (k + 1)) ((zs ++ digs x (k + 1)).map (Value.int .u8))) := Lib.hid (by
        rw [hdg.out]; simpa only [List.map_append, List.append_assoc, List.map_cons, List.map_nil, Nat.add_assoc] using hown2)
      clear hown2 hg2 hnil2 hbel
      go_wp2
      go_roundw
      case rel => exact ⟨k + 1, by omega, by go_num, by rw [hdv.out], HO2.out, hb2⟩
      case measure => (simp [intOf] <;> omega)
    · obtain rfl : k = 8 := by omega
      rw [show ((8 : Nat) : Int) = 8 from rfl]
      have HOW := Lib.hid hown
      clear hown
      generalize x / 256 ^ 8 = q8
      go_wp2
      go_ret
      exact ⟨_, rfl, HOW.out, hbel⟩

set_option maxRecDepth 100000 in
set_option maxHeartbeats 1600000 in
theorem rput7_ok (s : Rl) (w : World) (h : s.Ok) :
    Calls Try.prog 12 #[s.val] w fun r w' => (∃ u, r = .returned u ∧ w'.ownsRow w.heap.size 5 1 u 24 ((encL s).map (Value.int .u8))) ∧ Below w.heap.size w w' := by
  obtain ⟨⟨a0, a1⟩, ⟨b0, b1⟩, ⟨c0, c1⟩, ⟨d0, d1⟩⟩ := h
  obtain ⟨of, ty, sy, ad⟩ := s
  simp only at a0 a1 b0 b1 c0 c1 d0 d1
  obtain ⟨zs, hzs⟩ : ∃ zs, encL ⟨of, ty, sy, ad⟩ = zs := ⟨_, rfl⟩
  rw [hzs]
  have u0 : 0 ≤ IntKind.u64.wrap ad := by rw [IntKind.wrap_u64]; omega
  have u1 : IntKind.u64.wrap ad ≤ 18446744073709551615 := by rw [IntKind.wrap_u64]; omega
  have HE : Hid (digs of 8 ++ digs (ty + sy * 4294967296) 8 ++ digs (IntKind.u64.wrap ad) 8 = zs) := Lib.hid (by rw [← hzs]; simp [encL, infoL])
  have hw1 : IntKind.u64.wrap (sy * 4294967296) = sy * 4294967296 := by rw [IntKind.wrap_u64]; omega
  have hw2 : IntKind.u64.wrap (ty + sy * 4294967296) = ty + sy * 4294967296 := by rw [IntKind.wrap_u64]; omega
  obtain ⟨ua, hua⟩ : ∃ ua, IntKind.u64.wrap ad = ua := ⟨_, rfl⟩
  rw [hua] at u0 u1 HE
  unfold Rl.val
  simp only
  have HQ : Hid (∀ w', Below (w.heap.size + 1) (w.alloc (.cells #[.int .u64 of, .int .u32 ty, .int .u32 sy, .int .i64 ad] 25)) w' → Blk w' w.heap.size #[.int .u64 of, .int .u32 ty, .int .u32 sy, .int .i64 ad] 25 ∧ w.heap.size + 1 ≤ w'.heap.size) := Lib.hid (fun w' hb =>
    ⟨(Blk.new w _ _).below hb (Nat.lt_succ_self _), by have := hb.size; simp at this; omega⟩)
  have HB0 : Hid (Below (w.heap.size + 1) (w.alloc (.cells #[.int .u64 of, .int .u32 ty, .int .u32 sy, .int .i64 ad] 25)) (w.alloc (.cells #[.int .u64 of, .int .u32 ty, .int .u32 sy, .int .i64 ad] 25))) := Lib.hid (Below.refl _ _)
  have HBW : Hid (Below w.heap.size w (w.alloc (.cells #[.int .u64 of, .int .u32 ty, .int .u32 sy, .int .i64 ad] 25))) := Lib.hid ((Below.refl _ _).alloc (Nat.le_refl _) _)
  have HO0 : Hid ((w.alloc (.cells #[.int .u64 of, .int .u32 ty, .int .u32 sy, .int .i64 ad] 25)).ownsRow (w.heap.size + 1) 5 1 (.slice none 0 0) 0 (([] : List Int).map (Value.int .u8))) := Lib.hid (World.ownsRow_nil _ _ _ _)
  clear hzs
  go_enter Try.func12, Try.ntmps12
  go_wp2_with fail
  refine (eight7_ok (w.heap.size + 1) _ 0 [] of _ HO0.out (HQ.out _ HB0.out).2 (by decide) (by omega) (by omega)).mono ?_
  rintro r w1 ⟨v1, rfl, ho, hb⟩
  have HO1 : Hid (w1.ownsRow (w.heap.size + 1) 5 1 v1 8 ((digs of 8).map (Value.int .u8))) := Lib.hid (by simpa using ho)
  have HB1 := Lib.hid (HB0.out.trans hb)
  obtain ⟨q0, q1, q2, q3⟩ := Rl.cs (HQ.out _ HB1.out).1
  clear ho hb
  go_wp2_with fail
  refine (eight7_ok (w.heap.size + 1) _ 8 (digs of 8) (ty + sy * 4294967296) _ HO1.out (HQ.out _ HB1.out).2 (by decide) (by omega) (by omega)).mono ?_
  rintro r w2 ⟨v2, rfl, ho, hb⟩
  have HO2 := Lib.hid ho
  have HB2 := Lib.hid (HB1.out.trans hb)
  obtain ⟨r0, r1, r2, r3⟩ := Rl.cs (HQ.out _ HB2.out).1
  clear ho hb q0 q1 q2 q3
  go_wp2_with fail
  refine (eight7_ok (w.heap.size + 1) _ 16 (digs of 8 ++ digs (ty + sy * 4294967296) 8) ua _ HO2.out (HQ.out _ HB2.out).2 (by decide) u0 u1).mono ?_
  rintro r w3 ⟨v3, rfl, ho, hb⟩
  rw [HE.out] at ho
  have HO3 := Lib.hid (own_base ho (Nat.le_succ w.heap.size))
  have HB3 := Lib.hid (HBW.out.trans ((HB2.out.trans hb).mono (Nat.le_succ _)))
  clear ho hb
  go_wp2
  go_ret
  exact ⟨⟨_, rfl, HO3.out⟩, HB3.out⟩

theorem info_rel : (Try.prog.info? 25).map (fun i => (i.zero, i.size, i.bytes)) = some (some (.agg #[.int .u64 0, .int .u32 0, .int .u32 0, .int .i64 0]), 4, 24) := by kernel_rfl
theorem one_cells (s : Rl) : ∀ u ∈ [Value.int .u64 s.of, .int .u32 s.ty, .int .u32 s.sy, .int .i64 s.ad], u.oneCell' = true := by
  intro u hu
  simp only [List.mem_cons, List.not_mem_nil, or_false] at hu
  rcases hu with rfl | rfl | rfl | rfl <;> rfl
theorem cells_new (w : World) (L : List Value) (t : TypeId) (g : Nat) (hg : g = w.heap.size) : ∀ (j : Nat) (u : Value), L[j]? = some u → (w.alloc (.cells L.toArray t)).cell? ((⟨g, 0, none⟩ : Addr).add j) = some u := by
  intro j u hj
  subst hg
  rw [add_none, Nat.zero_add, (Blk.new w _ _).cell]
  simpa using hj
set_option maxRecDepth 100000 in
set_option maxHeartbeats 3200000 in
theorem rtable7_any (B : Nat) (a : Option Addr) (len cap : Nat) (zs : List Int) (w : World) (hb : Bys w B a len zs) (hB : B ≤ w.heap.size) (hl : len ≤ 140737488355328) :
    Calls Try.prog 13 #[.slice a len cap] w fun r w' => (∃ u, r = .returned (.tuple #[u, .int .i64 (tabL zs).1]) ∧ w'.ownsRow w.heap.size 25 4 u (tabL zs).2.length (Rl.flat (tabL zs).2)) ∧ Below w.heap.size w w' := by
  obtain ⟨i0, hi, hz0, hz1, hz2⟩ := info_parts info_rel
  have HI := Lib.hid hi
  have HZ0 := Lib.hid hz0
  have HZ1 := Lib.hid hz1
  have HZ2 := Lib.hid hz2
  have HZB := Lib.hid hb.2.1
  have HZL := Lib.hid hb.1
  have HBY := Lib.hid hb
  have hli : (len : Int) ≤ 140737488355328 := by omega
  clear hi hz0 hz1 hz2
  by_cases hm : len % 24 = 0
  · have HR : Hid (tabL zs = (0, tabR zs (len / 24))) := Lib.hid (by unfold tabL; rw [HZL.out, if_pos hm])
    rw [HR.out]
    have hmi : (len : Int) % 24 = 0 := by omega
    have HTL := Lib.hid (tabR_len zs (len / 24))
    obtain ⟨n, hn⟩ : ∃ n, len / 24 = n := ⟨_, rfl⟩
    rw [hn] at HTL HR ⊢
    have hln1 : len ≤ 24 * n := by omega
    have hln2 : 24 * n ≤ len := by omega
    clear hb hn hm
    go_enter Try.func13, Try.ntmps13
    go_wp2
    simp only [hmi]
    go_loopw [4, 5] (fun v i wr => ∃ k : Nat, k ≤ n ∧ i = .int .i64 (24 * (k : Int)) ∧ wr.ownsRow w.heap.size 25 4 v k (Rl.flat (tabR zs k)) ∧ Below w.heap.size w wr) (fun _ i _ => 24 * n - (intOf i).toNat)
    case atStart => exact ⟨0, Nat.zero_le _, rfl, World.ownsRow_nil _ _ _ _, Below.refl _ _⟩
    case round =>
      obtain ⟨k, hk, rfl, hown, hbel⟩ := hrel
      by_cases hlt : k < n
      · have hki : 24 * (k : Int) < 24 * n := by omega
        have hkl : 24 * (k : Int) < len := by omega
        have hkl2 : 24 * (k : Int) + 24 ≤ len := by omega
        have HBYW := Lib.hid (HBY.out.below (hbel.mono hB))
        have hsz := hbel.size
        obtain ⟨x0, hx0⟩ : ∃ x, num (piece zs (24 * k) 8) = x := ⟨_, rfl⟩
        obtain ⟨x1, hx1⟩ : ∃ x, num (piece zs (24 * k + 8) 8) = x := ⟨_, rfl⟩
        obtain ⟨x2, hx2⟩ : ∃ x, num (piece zs (24 * k + 16) 8) = x := ⟨_, rfl⟩
        have HG1 : Hid (Calls Try.prog 23 #[.slice a len cap, .int .u64 (24 * (k : Int)), .int .i64 8] wr fun e w' => e = .returned (.tuple #[.int .u64 x0, .int .i64 0]) ∧ wr = w') := Lib.hid (by
          have h := rget_ok B _ len cap zs (24 * k) 8 wr HBYW.out (by decide) (by omega) (by omega)
          rw [show ((24 * k : Nat) : Int) = 24 * (k : Int) by omega, hx0] at h
          exact h)
        have HG2 : Hid (Calls Try.prog 23 #[.slice a len cap, .int .u64 (24 * (k : Int) + 8), .int .i64 8] wr fun e w' => e = .returned (.tuple #[.int .u64 x1, .int .i64 0]) ∧ wr = w') := Lib.hid (by
          have h := rget_ok B _ len cap zs (24 * k + 8) 8 wr HBYW.out (by decide) (by omega) (by omega)
          rw [show ((24 * k + 8 : Nat) : Int) = 24 * (k : Int) + 8 by omega, hx1] at h
          exact h)
        have HG3 : Hid (Calls Try.prog 23 #[.slice a len cap, .int .u64 (24 * (k : Int) + 16), .int .i64 8] wr fun e w' => e = .returned (.tuple #[.int .u64 x2, .int .i64 0]) ∧ wr = w') := Lib.hid (by
          have h := rget_ok B _ len cap zs (24 * k + 16) 8 wr HBYW.out (by decide) (by omega) (by omega)
          rw [show ((24 * k + 16 : Nat) : Int) = 24 * (k : Int) + 16 by omega, hx2] at h
          exact h)
        have HTS : Hid (tabR zs (k + 1) = tabR zs k ++ [⟨x0, x1 % 4294967296, x1 / 4294967296, wrap64 x2⟩]) := Lib.hid (by
          rw [tabR_succ, ← hx0, ← hx1, ← hx2, ← IntWalk.i64_left]; rfl)
        have n1 := num_piece_lt (p := 24 * k + 8) (k := 8) HZB.out (by have := HZL.out; omega)
        rw [hx1] at n1
        have n10 : 0 ≤ x1 := by omega
        have n11 : x1 ≤ 18446744073709551615 := by omega
        have hw1 : IntKind.u32.wrap (x1 % 4294967296) = x1 % 4294967296 := by rw [IntKind.wrap_u32]; omega
        have hw2 : IntKind.u32.wrap (x1 / 4294967296) = x1 / 4294967296 := by rw [IntKind.wrap_u32]; omega
        have HOC := Lib.hid (one_cells ⟨x0, x1 % 4294967296, x1 / 4294967296, wrap64 x2⟩)
        have HOWN := Lib.hid hown
        have HBE := Lib.hid hbel
        clear hown hbel hx0 hx1 hx2 n1
        go_wp2_with (first | (go_at_call 23; with_reducible refine HG1.out.mono ?_; rintro e w' ⟨rfl, rfl⟩) | (go_at_call 23; with_reducible refine HG2.out.mono ?_; rintro e w' ⟨rfl, rfl⟩) | (go_at_call 23; with_reducible refine HG3.out.mono ?_; rintro e w' ⟨rfl, rfl⟩) | (at_builtin; refine wpList_append_own _ rfl _ _ 29 rfl w.heap.size 25 i0 _ 4 24 Try.underlying29 HI.out HZ0.out HZ1.out HZ2.out rfl (by decide) _ k _ rfl (World.ownsRow.alloc HOWN.out _) ⟨wr.heap.size, 0, none⟩ 1 1 [.int .u64 x0, .int .u32 (x1 % 4294967296), .int .u32 (x1 / 4294967296), .int .i64 (wrap64 x2)] rfl rfl ?c1 ?c2 ?c3 ?c4 ?c5 ?_))
        case c1 => exact cells_new wr [.int .u64 x0, .int .u32 (x1 % 4294967296), .int .u32 (x1 / 4294967296), .int .i64 (wrap64 x2)] _ _ rfl
        case c2 => exact HOC.out
        case c3 => unfold maxLen; omega
        case c4 => omega
        case c5 => simp; omega
        intro v2 w2 hown2 hg2 hnil2
        have hb2 : Below w.heap.size w w2 := (HBE.out.alloc (by omega) _).grown hg2 (by simp; omega) (fun q e => (HOWN.out.lt q e).1)
        have HO2 : Hid (w2.ownsRow w.heap.size 25 4 v2 (k + 1) (Rl.flat (tabR zs (k + 1)))) := Lib.hid (by
          rw [HTS.out, Rl.flat_snoc]; exact hown2)
        clear hown2 hg2 hnil2
        go_wp2
        go_roundw
        case rel => exact ⟨k + 1, by omega, by go_num, HO2.out, hb2⟩
        case measure => (simp [intOf] <;> omega)
      · obtain rfl : n = k := by omega
        have hkl : ¬ 24 * (n : Int) < len := by omega
        have HO2 : Hid (wr.ownsRow w.heap.size 25 4 _ (tabR zs n).length (Rl.flat (tabR zs n))) := Lib.hid (by rw [HTL.out]; exact hown)
        clear hown
        go_wp2
        go_ret2
        exact ⟨⟨_, rfl, HO2.out⟩, hbel⟩
  · have HR : Hid (tabL zs = (10, [])) := Lib.hid (by unfold tabL; rw [HZL.out, if_neg hm])
    rw [HR.out]
    have hmi : ¬ (len : Int) % 24 = 0 := by omega
    have hmb : ((len : Int) % 24 == 0) = false := by simpa using hmi
    clear hb
    go_enter Try.func13, Try.ntmps13
    go_wp2
    go_ret2
    exact ⟨⟨_, rfl, World.ownsRow_nil _ _ _ _⟩, Below.refl _ _⟩

set_option maxHeartbeats 1600000 in
theorem known7_any (t : Int) (w : World) : Calls Try.prog 25 #[.int .u32 t] w fun r w' => r = .returned (.bool (knownL t)) ∧ w = w' := by
  obtain ⟨r, hr⟩ : ∃ r, knownL t = r := ⟨_, rfl⟩
  rw [hr]
  have HR := Lib.hid hr
  clear hr
  have he : ∀ n : Int, t = n → ∀ b, knownL n = b → knownL t = b := fun n h b hb => h ▸ hb
  by_cases h0 : t = 0
  · subst h0
    go_enter Try.func25, Try.ntmps25
    go_wp2
    go_ret
    exact ⟨by rw [← HR.out]; rfl, rfl⟩
  · by_cases h1 : t = 1 ∨ t = 6 ∨ t = 7 ∨ t = 8 ∨ t = 16 ∨ t = 17 ∨ t = 18
    · rcases h1 with rfl | rfl | rfl | rfl | rfl | rfl | rfl
      all_goals
        go_enter Try.func25, Try.ntmps25
        go_wp2
        go_ret
        exact ⟨by rw [← HR.out]; rfl, rfl⟩
    · have g0 : (t == 0) = false := by simpa using h0
      have g1 : (t == 1) = false := by simp; omega
      have g2 : (t == 6) = false := by simp; omega
      have g3 : (t == 7) = false := by simp; omega
      have g4 : (t == 8) = false := by simp; omega
      have g5 : (t == 16) = false := by simp; omega
      have g6 : (t == 17) = false := by simp; omega
      have g7 : (t == 18) = false := by simp; omega
      have HK : Hid (r = false) := Lib.hid (by
        rw [← HR.out]; unfold knownL; rw [decide_eq_false_iff_not]; omega)
      clear h0 h1 he
      go_enter Try.func25, Try.ntmps25
      go_wp2
      go_ret
      exact ⟨by rw [HK.out]; rfl, rfl⟩
end Go.Proofs.Ytdfghnnpjoikeaa
