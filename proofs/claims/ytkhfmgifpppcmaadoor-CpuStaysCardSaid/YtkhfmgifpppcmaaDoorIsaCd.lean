/-
  What is proved here: Encode and Decode of package isa.
  Conditions: the listed variables hold what they hold (Tb); numbers of their types.
-/
import Derived.Test.YtkhfmgifpppcmaaDoorIsaOps
import Derived.Laws.BitsAllLaws
namespace Go.Proofs.YtkhfmgifpppcmaaDoor
open Go.RowKit
set_option linter.unusedVariables false
set_option linter.unusedSimpArgs false

theorem or_add (k : Nat) {x y m : Int} (x0 : 0 ≤ x) (x1 : x < (2 ^ k : Nat)) (x2 : x < 18446744073709551616) (m0 : 0 ≤ m) (hy : y = (2 ^ k : Nat) * m) (y1 : y < 18446744073709551616) : bits .or .u64 x y = x + y := by
  have hp : 0 < 2 ^ k := Nat.two_pow_pos k
  obtain ⟨a, rfl⟩ : ∃ a : Nat, x = (a : Int) := ⟨x.toNat, by omega⟩
  obtain ⟨b, rfl⟩ : ∃ b : Nat, m = (b : Int) := ⟨m.toNat, by omega⟩
  have hy2 : y = ((2 ^ k * b : Nat) : Int) := by rw [hy]; push_cast; rfl
  rw [hy2] at y1 ⊢
  have ha : a < 2 ^ k := by omega
  rw [u64_or_nat a (2 ^ k * b) (by omega) (by omega), Nat.or_comm, ← Nat.two_pow_add_eq_or_of_lt ha b]
  push_cast; omega
theorem enc_bits {op a b c m : Int} (p0 : 0 ≤ op) (p1 : op ≤ 41) (a0 : 0 ≤ a) (a1 : a ≤ 31) (b0 : 0 ≤ b) (b1 : b ≤ 31) (c0 : 0 ≤ c) (c1 : c ≤ 31) (m0 : -2147483648 ≤ m) (m1 : m ≤ 2147483647) :
    bits .or .u64 (bits .or .u64 (bits .or .u64 (bits .or .u64 op (a * 256)) (b * 8192)) (c * 262144)) (IntKind.u64.wrap (IntKind.u64.wrap m * 4294967296)) = op + 256 * a + 8192 * b + 262144 * c + 4294967296 * (if m < 0 then m + 4294967296 else m) := by
  rw [or_add 8 (x := op) (y := a * 256) (m := a) p0 (by simp; omega) (by omega) a0 (by simp; omega) (by omega)]
  rw [or_add 13 (x := op + a * 256) (y := b * 8192) (m := b) (by omega) (by simp; omega) (by omega) b0 (by simp; omega) (by omega)]
  rw [or_add 18 (x := op + a * 256 + b * 8192) (y := c * 262144) (m := c) (by omega) (by simp; omega) (by omega) c0 (by simp; omega) (by omega)]
  have e : IntKind.u64.wrap (IntKind.u64.wrap m * 4294967296) = 4294967296 * (if m < 0 then m + 4294967296 else m) := by
    rw [IntKind.wrap_u64, IntKind.wrap_u64]
    split <;> omega
  rw [e]
  rw [or_add 32 (x := op + a * 256 + b * 8192 + c * 262144) (y := 4294967296 * (if m < 0 then m + 4294967296 else m)) (m := if m < 0 then m + 4294967296 else m) (by omega) (by simp; omega) (by omega) (by split <;> omega) (by simp) (by split <;> omega)]
  omega
theorem cells5e {w : World} {g : Nat} {v0 v1 v2 v3 v4 : Value} {t : TypeId} (h : Blk w g #[v0, v1, v2, v3, v4] t) :
    w.cell? ⟨g, 0, none⟩ = some v0 ∧ w.cell? ⟨g, 1, none⟩ = some v1 ∧ w.cell? ⟨g, 2, none⟩ = some v2 ∧ w.cell? ⟨g, 3, none⟩ = some v3 ∧ w.cell? ⟨g, 4, none⟩ = some v4 := ⟨h.cell 0, h.cell 1, h.cell 2, h.cell 3, h.cell 4⟩
set_option maxRecDepth 100000 in
set_option maxHeartbeats 3200000 in
theorem ienc_any (i : In) (w : World) (h : i.Ok32) (hT : Tb w) :
    Calls Tryd.prog 30 #[i.ival] w fun r w' => r = .returned (.tuple #[.int .u64 (encI i).1, .int .i64 (encI i).2]) ∧ Below w.heap.size w w' := by
  have HO := Lib.hid (fun w1 h1 => opof_ok i w1 h h1)
  have HT1 : Hid (∀ w1, Below w.heap.size w w1 → Tb w1) := Lib.hid (fun w1 hb => hT.later hb)
  have HK0 : Hid (Blk (w.alloc (.cells #[.int .i64 i.op, .int .i64 i.a, .int .i64 i.b, .int .i64 i.c, .int .i32 i.imm] 63)) w.heap.size #[.int .i64 i.op, .int .i64 i.a, .int .i64 i.b, .int .i64 i.c, .int .i32 i.imm] 63) := Lib.hid (Blk.new w _ _)
  have HB0 := Lib.hid (fun o1 => bal1 w o1)
  have hbd := @mayI_bd i
  have hno := @encI_no i
  have hyes := @encI_yes i
  obtain ⟨E, hE⟩ : ∃ E, encI i = E := ⟨_, rfl⟩
  obtain ⟨M, hM⟩ : ∃ M, mayI i = M := ⟨_, rfl⟩
  rw [hM] at HO hbd hno hyes
  rw [hE] at hno hyes ⊢
  obtain ⟨OV, hOV⟩ : ∃ OV : Orow, opVal M i.op = OV.val := by
    unfold opVal
    split
    · exact ⟨_, rfl⟩
    · exact ⟨_, rfl⟩
  rw [hOV] at HO
  obtain ⟨oop, onm, olt⟩ := OV
  simp only [Orow.val] at HO
  obtain ⟨op, a, b, c, m⟩ := i
  simp only [In.ival] at HO HK0 hbd hyes ⊢
  clear hE hM hOV h hT
  cases M with
  | false =>
    obtain rfl := hno rfl
    clear hbd hno hyes
    go_enter Tryd.func30, Tryd.ntmps30
    go_wp2_with fail
    refine (HO.out _ (HT1.out _ (HB0.out _))).mono ?_
    rintro e w1 ⟨rfl, hb1⟩
    have HBB := Lib.hid (fun o => bal ((HB0.out (.cells #[.int .i64 op, .int .i64 a, .int .i64 b, .int .i64 c, .int .i32 m] 63)).trans (hb1.mono (HB0.out _).size)) o)
    clear hb1
    go_wp2
    go_ret2
    exact ⟨rfl, HBB.out _⟩
  | true =>
    obtain ⟨⟨p0, p1⟩, ⟨a0, a1⟩, ⟨b0, b1⟩, ⟨c0, c1⟩, m0, m1⟩ := hbd rfl
    obtain rfl := hyes rfl
    clear hbd hno hyes
    have hz := enc_bits p0 p1 a0 a1 b0 b1 c0 c1 m0 m1
    obtain ⟨ZV, hZ⟩ : ∃ z, op + 256 * a + 8192 * b + 262144 * c + 4294967296 * (if m < 0 then m + 4294967296 else m) = z := ⟨_, rfl⟩
    rw [hZ] at hz ⊢
    have HZ := Lib.hid hz
    clear hz hZ
    go_enter Tryd.func30, Tryd.ntmps30
    go_wp2_with fail
    refine (HO.out _ (HT1.out _ (HB0.out _))).mono ?_
    rintro e w1 ⟨rfl, hb1⟩
    have hk1 := (HK0.out.later hb1).alloc (.cells #[.int .i64 oop, .string onm, .string olt] 89)
    obtain ⟨q0, q1, q2, q3, q4⟩ := cells5e hk1
    have HBB := Lib.hid (fun o => bal ((HB0.out (.cells #[.int .i64 op, .int .i64 a, .int .i64 b, .int .i64 c, .int .i32 m] 63)).trans (hb1.mono (HB0.out _).size)) o)
    clear hb1 hk1
    go_wp2
    rw [HZ.out]
    go_ret2
    exact ⟨rfl, HBB.out _⟩
theorem and_low (k : Nat) {x : Int} (x0 : 0 ≤ x) (x1 : x < 18446744073709551616) (hk : 2 ^ k ≤ 18446744073709551616) : bits .and .u64 x ((2 ^ k - 1 : Nat) : Int) = x % (2 ^ k : Nat) := by
  obtain ⟨a, rfl⟩ : ∃ a : Nat, x = (a : Int) := ⟨x.toNat, by omega⟩
  have hp : 0 < 2 ^ k := Nat.two_pow_pos k
  rw [u64_and_nat a (2 ^ k - 1) (by omega) (by omega), Nat.and_two_pow_sub_one_eq_mod]
  push_cast; rfl
theorem cut_ok32 {x : Int} (x0 : 0 ≤ x) (x1 : x ≤ 18446744073709551615) : (cutI x).Ok32 := by
  unfold cutI
  refine ⟨?_, ?_, ?_, ?_, ?_⟩ <;> simp only
  · omega
  · omega
  · omega
  · omega
  · split <;> omega
set_option maxRecDepth 100000 in
set_option maxHeartbeats 3200000 in
theorem idec_any (x : Int) (w : World) (x0 : 0 ≤ x) (x1 : x ≤ 18446744073709551615) (hT : Tb w) :
    Calls Tryd.prog 19 #[.int .u64 x] w fun r w' => r = .returned (.tuple #[(decI x).1.ival, .int .i64 (decI x).2]) ∧ Below w.heap.size w w' := by
  have HT1 : Hid (∀ w1, Below w.heap.size w w1 → Tb w1) := Lib.hid (fun w1 hb => hT.later hb)
  have HEC := Lib.hid (fun w1 h1 => ienc_any (cutI x) w1 (cut_ok32 x0 x1) h1)
  have hyes := @decI_yes x
  have hno := @decI_no x
  have hcut : (cutI x).ival = .agg #[.int .i64 (x % 256), .int .i64 (x / 256 % 32), .int .i64 (x / 8192 % 32), .int .i64 (x / 262144 % 32), .int .i32 (if 2147483648 ≤ x / 4294967296 then x / 4294967296 - 4294967296 else x / 4294967296)] := rfl
  obtain ⟨⟨y, e⟩, hE⟩ : ∃ E, encI (cutI x) = E := ⟨_, rfl⟩
  rw [hE] at HEC hyes hno
  simp only at HEC
  rw [hcut] at HEC
  obtain ⟨D, hD⟩ : ∃ D, decI x = D := ⟨_, rfl⟩
  rw [hD] at hyes hno ⊢
  have HCUT := Lib.hid hcut
  have HYES := Lib.hid hyes
  have HNO := Lib.hid hno
  clear hE hD hcut hyes hno hT
  have A1 : wrap64 (bits .and .u64 x 255) = x % 256 := by rw [show (255 : Int) = ((2 ^ 8 - 1 : Nat) : Int) by decide, and_low 8 x0 (by omega) (by decide)]; unfold wrap64; simp; omega
  have A2 : wrap64 (bits .and .u64 (x / 256) 31) = x / 256 % 32 := by rw [show (31 : Int) = ((2 ^ 5 - 1 : Nat) : Int) by decide, and_low 5 (by omega) (by omega) (by decide)]; unfold wrap64; simp; omega
  have A3 : wrap64 (bits .and .u64 (x / 8192) 31) = x / 8192 % 32 := by rw [show (31 : Int) = ((2 ^ 5 - 1 : Nat) : Int) by decide, and_low 5 (by omega) (by omega) (by decide)]; unfold wrap64; simp; omega
  have A4 : wrap64 (bits .and .u64 (x / 262144) 31) = x / 262144 % 32 := by rw [show (31 : Int) = ((2 ^ 5 - 1 : Nat) : Int) by decide, and_low 5 (by omega) (by omega) (by decide)]; unfold wrap64; simp; omega
  by_cases hbig : 2147483648 ≤ x / 4294967296
  · rw [if_pos hbig] at HEC HCUT
    have E5 : wrap32 (x / 4294967296) = (x / 4294967296 - 4294967296) := by unfold wrap32; omega
    go_enter Tryd.func19, Tryd.ntmps19
    go_wp2_with fail
    refine (HEC.out _ (HT1.out _ (bal (bal1 _ _) _))).mono ?_
    rintro r w1 ⟨rfl, hb1⟩
    have hk0 := ((Blk.new w #[.int .i64 0, .int .i64 0, .int .i64 0, .int .i64 0, .int .i32 0] 63).alloc (.cells #[.int .i64 (x % 256), .int .i64 (x / 256 % 32), .int .i64 (x / 8192 % 32), .int .i64 (x / 262144 % 32), .int .i32 (x / 4294967296 - 4294967296)] 63)).later hb1
    have hk1 := (Blk.new (w.alloc (.cells #[.int .i64 0, .int .i64 0, .int .i64 0, .int .i64 0, .int .i32 0] 63)) #[.int .i64 (x % 256), .int .i64 (x / 256 % 32), .int .i64 (x / 8192 % 32), .int .i64 (x / 262144 % 32), .int .i32 (x / 4294967296 - 4294967296)] 63).later hb1
    rw [World.size_alloc] at hk1
    have HBB := Lib.hid ((bal (bal1 w _) _).trans (hb1.mono (bal (bal1 w _) _).size))
    have HK0 := Lib.hid hk0
    obtain ⟨p0, p1, p2, p3, p4⟩ := cells5e hk0
    obtain ⟨f0, f1, f2, f3, f4⟩ : _ ∧ _ ∧ _ ∧ _ ∧ _ := ⟨hk0.frozen 0, hk0.frozen 1, hk0.frozen 2, hk0.frozen 3, hk0.frozen 4⟩
    obtain ⟨q0, q1, q2, q3, q4⟩ := cells5e hk1
    clear hk0 hk1 hb1
    by_cases he : e = 0
    · subst he
      by_cases hy : y = x
      · subst hy
        have hd := HYES.out rfl
        have HD : Hid ((Value.tuple #[D.1.ival, .int .i64 D.2]) = .tuple #[.agg #[.int .i64 (y % 256), .int .i64 (y / 256 % 32), .int .i64 (y / 8192 % 32), .int .i64 (y / 262144 % 32), .int .i32 (y / 4294967296 - 4294967296)], .int .i64 0]) := Lib.hid (by rw [hd, ← HCUT.out])
        clear hd
        go_wp2
        obtain ⟨e0, e1, e2, e3, e4⟩ := three_five HK0.out (.int .i64 (y % 256)) (.int .i64 (y / 256 % 32)) (.int .i64 (y / 8192 % 32)) (.int .i64 (y / 262144 % 32)) (.int .i32 (y / 4294967296 - 4294967296))
        exact bodyPost_ret (v := .tuple #[.agg #[.int .i64 (y % 256), .int .i64 (y / 256 % 32), .int .i64 (y / 8192 % 32), .int .i64 (y / 262144 % 32), .int .i32 (y / 4294967296 - 4294967296)], .int .i64 0]) (by simp [results, Tryd.results19, go_sem, e0, e1, e2, e3, e4]) rfl ⟨by rw [HD.out], five_below HBB.out (Nat.le_refl _) _ _ _ _ _⟩
      · have hd := HNO.out (fun h => hy (by injection h))
        have HD : Hid ((Value.tuple #[D.1.ival, .int .i64 D.2]) = .tuple #[.agg #[.int .i64 0, .int .i64 0, .int .i64 0, .int .i64 0, .int .i32 0], .int .i64 42]) := Lib.hid (by rw [hd]; rfl)
        have hyb : (y != x) = true := by simpa using hy
        clear hd
        go_wp2
        obtain ⟨e0, e1, e2, e3, e4⟩ := three_five HK0.out (.int .i64 0) (.int .i64 0) (.int .i64 0) (.int .i64 0) (.int .i32 0)
        exact bodyPost_ret (v := .tuple #[.agg #[.int .i64 0, .int .i64 0, .int .i64 0, .int .i64 0, .int .i32 0], .int .i64 42]) (by simp [results, Tryd.results19, go_sem, e0, e1, e2, e3, e4]) rfl ⟨by rw [HD.out], five_below HBB.out (Nat.le_refl _) _ _ _ _ _⟩
    · have hd := HNO.out (fun h => he (by injection h))
      have HD : Hid ((Value.tuple #[D.1.ival, .int .i64 D.2]) = .tuple #[.agg #[.int .i64 0, .int .i64 0, .int .i64 0, .int .i64 0, .int .i32 0], .int .i64 42]) := Lib.hid (by rw [hd]; rfl)
      have heb : (e != 0) = true := by simpa using he
      clear hd
      go_wp2
      obtain ⟨e0, e1, e2, e3, e4⟩ := three_five HK0.out (.int .i64 0) (.int .i64 0) (.int .i64 0) (.int .i64 0) (.int .i32 0)
      exact bodyPost_ret (v := .tuple #[.agg #[.int .i64 0, .int .i64 0, .int .i64 0, .int .i64 0, .int .i32 0], .int .i64 42]) (by simp [results, Tryd.results19, go_sem, e0, e1, e2, e3, e4]) rfl ⟨by rw [HD.out], five_below HBB.out (Nat.le_refl _) _ _ _ _ _⟩
  · rw [if_neg hbig] at HEC HCUT
    have E5 : wrap32 (x / 4294967296) = (x / 4294967296) := by unfold wrap32; omega
    go_enter Tryd.func19, Tryd.ntmps19
    go_wp2_with fail
    refine (HEC.out _ (HT1.out _ (bal (bal1 _ _) _))).mono ?_
    rintro r w1 ⟨rfl, hb1⟩
    have hk0 := ((Blk.new w #[.int .i64 0, .int .i64 0, .int .i64 0, .int .i64 0, .int .i32 0] 63).alloc (.cells #[.int .i64 (x % 256), .int .i64 (x / 256 % 32), .int .i64 (x / 8192 % 32), .int .i64 (x / 262144 % 32), .int .i32 (x / 4294967296)] 63)).later hb1
    have hk1 := (Blk.new (w.alloc (.cells #[.int .i64 0, .int .i64 0, .int .i64 0, .int .i64 0, .int .i32 0] 63)) #[.int .i64 (x % 256), .int .i64 (x / 256 % 32), .int .i64 (x / 8192 % 32), .int .i64 (x / 262144 % 32), .int .i32 (x / 4294967296)] 63).later hb1
    rw [World.size_alloc] at hk1
    have HBB := Lib.hid ((bal (bal1 w _) _).trans (hb1.mono (bal (bal1 w _) _).size))
    have HK0 := Lib.hid hk0
    obtain ⟨p0, p1, p2, p3, p4⟩ := cells5e hk0
    obtain ⟨f0, f1, f2, f3, f4⟩ : _ ∧ _ ∧ _ ∧ _ ∧ _ := ⟨hk0.frozen 0, hk0.frozen 1, hk0.frozen 2, hk0.frozen 3, hk0.frozen 4⟩
    obtain ⟨q0, q1, q2, q3, q4⟩ := cells5e hk1
    clear hk0 hk1 hb1
    by_cases he : e = 0
    · subst he
      by_cases hy : y = x
      · subst hy
        have hd := HYES.out rfl
        have HD : Hid ((Value.tuple #[D.1.ival, .int .i64 D.2]) = .tuple #[.agg #[.int .i64 (y % 256), .int .i64 (y / 256 % 32), .int .i64 (y / 8192 % 32), .int .i64 (y / 262144 % 32), .int .i32 (y / 4294967296)], .int .i64 0]) := Lib.hid (by rw [hd, ← HCUT.out])
        clear hd
        go_wp2
        obtain ⟨e0, e1, e2, e3, e4⟩ := three_five HK0.out (.int .i64 (y % 256)) (.int .i64 (y / 256 % 32)) (.int .i64 (y / 8192 % 32)) (.int .i64 (y / 262144 % 32)) (.int .i32 (y / 4294967296))
        exact bodyPost_ret (v := .tuple #[.agg #[.int .i64 (y % 256), .int .i64 (y / 256 % 32), .int .i64 (y / 8192 % 32), .int .i64 (y / 262144 % 32), .int .i32 (y / 4294967296)], .int .i64 0]) (by simp [results, Tryd.results19, go_sem, e0, e1, e2, e3, e4]) rfl ⟨by rw [HD.out], five_below HBB.out (Nat.le_refl _) _ _ _ _ _⟩
      · have hd := HNO.out (fun h => hy (by injection h))
        have HD : Hid ((Value.tuple #[D.1.ival, .int .i64 D.2]) = .tuple #[.agg #[.int .i64 0, .int .i64 0, .int .i64 0, .int .i64 0, .int .i32 0], .int .i64 42]) := Lib.hid (by rw [hd]; rfl)
        have hyb : (y != x) = true := by simpa using hy
        clear hd
        go_wp2
        obtain ⟨e0, e1, e2, e3, e4⟩ := three_five HK0.out (.int .i64 0) (.int .i64 0) (.int .i64 0) (.int .i64 0) (.int .i32 0)
        exact bodyPost_ret (v := .tuple #[.agg #[.int .i64 0, .int .i64 0, .int .i64 0, .int .i64 0, .int .i32 0], .int .i64 42]) (by simp [results, Tryd.results19, go_sem, e0, e1, e2, e3, e4]) rfl ⟨by rw [HD.out], five_below HBB.out (Nat.le_refl _) _ _ _ _ _⟩
    · have hd := HNO.out (fun h => he (by injection h))
      have HD : Hid ((Value.tuple #[D.1.ival, .int .i64 D.2]) = .tuple #[.agg #[.int .i64 0, .int .i64 0, .int .i64 0, .int .i64 0, .int .i32 0], .int .i64 42]) := Lib.hid (by rw [hd]; rfl)
      have heb : (e != 0) = true := by simpa using he
      clear hd
      go_wp2
      obtain ⟨e0, e1, e2, e3, e4⟩ := three_five HK0.out (.int .i64 0) (.int .i64 0) (.int .i64 0) (.int .i64 0) (.int .i32 0)
      exact bodyPost_ret (v := .tuple #[.agg #[.int .i64 0, .int .i64 0, .int .i64 0, .int .i64 0, .int .i32 0], .int .i64 42]) (by simp [results, Tryd.results19, go_sem, e0, e1, e2, e3, e4]) rfl ⟨by rw [HD.out], five_below HBB.out (Nat.le_refl _) _ _ _ _ _⟩
end Go.Proofs.YtkhfmgifpppcmaaDoor
