/-
  What is proved here: package symbols' Table: the symbols that lie one behind the other, in new memory, or the error that the document names; one entry; a number of it.
  Conditions: slices of at most 2^47 bytes.
-/
import Derived.Test.YtpodnhieaboddaaSymMath
import Derived.Test.YtpodnhieaboddaaOGet
import Derived.Test.YtpodnhieaboddaaSymRTable
namespace Go.Proofs.Ytpodnhieaboddaa
open Go.RowKit
set_option linter.unusedVariables false
set_option linter.unusedSimpArgs false

theorem piece_piece {zs : List Int} {p n q k : Nat} (h : q + k ≤ n) : piece (piece zs p n) q k = piece zs (p + q) k := by
  unfold piece
  rw [List.drop_take, List.take_take, List.drop_drop, Nat.min_eq_left (by omega)]
theorem num_one {zs : List Int} {p : Nat} (h : p < zs.length) : num (piece zs p 1) = zs.getD p 0 := by
  rw [num_piece_succ (k := 0) (by omega)]
  simp [piece_zero, num]
/-- The entry of 24 bytes. -/
theorem symAt_piece {zs : List Int} {k : Nat} (h : 24 * k + 24 ≤ zs.length) : symAt zs k =
    ⟨num (piece (piece zs (24 * k) 24) 0 4), num (piece (piece zs (24 * k) 24) 4 1), num (piece (piece zs (24 * k) 24) 5 1), num (piece (piece zs (24 * k) 24) 6 2), num (piece (piece zs (24 * k) 24) 8 8), num (piece (piece zs (24 * k) 24) 16 8)⟩ := by
  rw [piece_piece (by omega), piece_piece (by omega), piece_piece (by omega), piece_piece (by omega), piece_piece (by omega), piece_piece (by omega), num_one (by omega), num_one (by omega)]
  rfl
set_option maxHeartbeats 400000 in
theorem read_ok (B : Nat) (a : Option Addr) (len cap : Nat) (zs : List Int) (p n : Nat) (w : World) (hb : Bys w B a len zs) (h : n = 1 ∨ n = 2 ∨ n = 4 ∨ n = 8) (hl : (len : Int) ≤ 9223372036854775807) (hs : p + n ≤ len) :
    Calls Try.prog 25 #[.slice a len cap, .int .u64 p, .int .i64 n] w fun e w' => e = .returned (.int .u64 (num (piece zs p n))) ∧ w = w' := by
  have HB := Lib.hid hb
  have Hn := Lib.hid h
  clear hb h
  go_enter Try.func25, Try.ntmps25
  go_wp2_with (go_at_call 30; refine (get_ok _ _ _ _ _ _ _ _ HB.out Hn.out hl hs).mono ?_; rintro e w' ⟨rfl, rfl⟩)
  go_ret
  exact ⟨rfl, rfl⟩
set_option maxHeartbeats 800000 in
theorem entry_ok (B : Nat) (a : Option Addr) (cap k : Nat) (zs : List Int) (w : World) (hb : Bys w B a 24 (piece zs (24 * k) 24)) (hB : B ≤ w.heap.size) (hz : ∀ n ∈ zs, 0 ≤ n ∧ n ≤ 255) (hk : 24 * k + 24 ≤ zs.length) :
    Calls Try.prog 21 #[.slice a 24 cap] w fun r w' => r = .returned (symAt zs k).val ∧ Below w.heap.size w w' := by
  have hok := symAt_ok hz hk
  rw [symAt_piece hk] at hok ⊢
  generalize piece zs (24 * k) 24 = C at *
  have hR : ∀ w1, Below w.heap.size w w1 → Bys w1 B a 24 C := fun w1 h1 => hb.below (h1.mono hB)
  have R0 : Hid (∀ w1, Below w.heap.size w w1 → Calls Try.prog 25 #[.slice a 24 cap, .int .u64 0, .int .i64 4] w1 fun e w' => e = .returned (.int .u64 (num (piece C 0 4))) ∧ w1 = w') := Lib.hid (fun w1 h1 => read_ok B a 24 cap C 0 4 w1 (hR w1 h1) (by decide) (by omega) (by omega))
  have R1 : Hid (∀ w1, Below w.heap.size w w1 → Calls Try.prog 25 #[.slice a 24 cap, .int .u64 4, .int .i64 1] w1 fun e w' => e = .returned (.int .u64 (num (piece C 4 1))) ∧ w1 = w') := Lib.hid (fun w1 h1 => read_ok B a 24 cap C 4 1 w1 (hR w1 h1) (by decide) (by omega) (by omega))
  have R2 : Hid (∀ w1, Below w.heap.size w w1 → Calls Try.prog 25 #[.slice a 24 cap, .int .u64 5, .int .i64 1] w1 fun e w' => e = .returned (.int .u64 (num (piece C 5 1))) ∧ w1 = w') := Lib.hid (fun w1 h1 => read_ok B a 24 cap C 5 1 w1 (hR w1 h1) (by decide) (by omega) (by omega))
  have R3 : Hid (∀ w1, Below w.heap.size w w1 → Calls Try.prog 25 #[.slice a 24 cap, .int .u64 6, .int .i64 2] w1 fun e w' => e = .returned (.int .u64 (num (piece C 6 2))) ∧ w1 = w') := Lib.hid (fun w1 h1 => read_ok B a 24 cap C 6 2 w1 (hR w1 h1) (by decide) (by omega) (by omega))
  have R4 : Hid (∀ w1, Below w.heap.size w w1 → Calls Try.prog 25 #[.slice a 24 cap, .int .u64 8, .int .i64 8] w1 fun e w' => e = .returned (.int .u64 (num (piece C 8 8))) ∧ w1 = w') := Lib.hid (fun w1 h1 => read_ok B a 24 cap C 8 8 w1 (hR w1 h1) (by decide) (by omega) (by omega))
  have R5 : Hid (∀ w1, Below w.heap.size w w1 → Calls Try.prog 25 #[.slice a 24 cap, .int .u64 16, .int .i64 8] w1 fun e w' => e = .returned (.int .u64 (num (piece C 16 8))) ∧ w1 = w') := Lib.hid (fun w1 h1 => read_ok B a 24 cap C 16 8 w1 (hR w1 h1) (by decide) (by omega) (by omega))
  obtain ⟨⟨a0, a1⟩, ⟨b0, b1⟩, ⟨c0, c1⟩, ⟨d0, d1⟩, ⟨e0, e1⟩, ⟨f0, f1⟩⟩ := hok
  simp only at a0 a1 b0 b1 c0 c1 d0 d1 e0 e1 f0 f1
  generalize num (piece C 0 4) = na at *
  generalize num (piece C 4 1) = inf at *
  generalize num (piece C 5 1) = ot at *
  generalize num (piece C 6 2) = se at *
  generalize num (piece C 8 8) = va at *
  generalize num (piece C 16 8) = si at *
  have HBL : Hid (∀ o, Below w.heap.size w (w.alloc o)) := Lib.hid (fun o => (Below.refl _ _).alloc (Nat.le_refl _) o)
  clear hb hR
  unfold Sy.val
  simp only
  go_enter Try.func21, Try.ntmps21
  go_wp2_with (first | (go_at_call 25; with_reducible refine (R0.out _ (HBL.out _)).mono ?_; rintro r w' ⟨rfl, rfl⟩) | (go_at_call 25; with_reducible refine (R1.out _ (HBL.out _)).mono ?_; rintro r w' ⟨rfl, rfl⟩) | (go_at_call 25; with_reducible refine (R2.out _ (HBL.out _)).mono ?_; rintro r w' ⟨rfl, rfl⟩) | (go_at_call 25; with_reducible refine (R3.out _ (HBL.out _)).mono ?_; rintro r w' ⟨rfl, rfl⟩) | (go_at_call 25; with_reducible refine (R4.out _ (HBL.out _)).mono ?_; rintro r w' ⟨rfl, rfl⟩) | (go_at_call 25; with_reducible refine (R5.out _ (HBL.out _)).mono ?_; rintro r w' ⟨rfl, rfl⟩))
  refine bodyPost_ret (v := .agg #[.int .u32 na, .int .u8 inf, .int .u8 ot, .int .u16 se, .int .u64 va, .int .u64 si]) (by simp [results, Try.results21, go_sem]) rfl ⟨rfl, ?_⟩
  exact HBL.out _

set_option maxRecDepth 100000 in
set_option maxHeartbeats 1600000 in
theorem stable_any (B : Nat) (a : Option Addr) (len cap : Nat) (zs : List Int) (w : World) (hb : Bys w B a len zs) (hB : B ≤ w.heap.size) (hl : len ≤ 140737488355328) (hcap : len ≤ cap) (hcm : (cap : Int) ≤ 9223372036854775807) :
    Calls Try.prog 14 #[.slice a len cap] w fun r w' => (∃ u, r = .returned (.tuple #[u, .int .i64 (tabY zs).1]) ∧ w'.ownsRow w.heap.size 26 6 u (tabY zs).2.length (Sy.flat (tabY zs).2)) ∧ Below w.heap.size w w' := by
  obtain ⟨i0, hi, hz0, hz1, hz2⟩ := info_parts info_sym
  have HI := Lib.hid hi
  have HZ0 := Lib.hid hz0
  have HZ1 := Lib.hid hz1
  have HZ2 := Lib.hid hz2
  have HZB := Lib.hid hb.2.1
  have HZL := Lib.hid hb.1
  have HBY := Lib.hid hb
  have hli : (len : Int) ≤ 140737488355328 := by omega
  clear hi hz0 hz1 hz2
  by_cases hm : len % 24 = 0
  · have HR : Hid (tabY zs = (0, tabS zs (len / 24))) := Lib.hid (by unfold tabY; rw [HZL.out, if_pos hm])
    rw [HR.out]
    have hmi : (len : Int) % 24 = 0 := by omega
    have HTL := Lib.hid (tabS_len zs (len / 24))
    obtain ⟨n, hn⟩ : ∃ n, len / 24 = n := ⟨_, rfl⟩
    have hni : (len : Int) / 24 = (n : Int) := by omega
    rw [hn] at HTL HR ⊢
    have hln1 : len ≤ 24 * n := by omega
    have hln2 : 24 * n ≤ len := by omega
    clear hb hn hm
    go_enter Try.func14, Try.ntmps14
    go_wp2_with (at_make; refine wpList_make_own _ rfl _ _ 32 rfl w.heap.size 26 i0 _ 6 Try.underlying32 HI.out HZ0.out HZ1.out .i64 .i64 _ n rfl rfl rfl ?c1 ?c2 ?c3 ?_)
    case c1 => rw [HZ2.out]; omega
    case c2 => unfold maxLen; omega
    case c3 => exact Nat.le_refl _
    intro w1 hown1 hg1
    have hbw1 : Below w.heap.size w w1 := (Below.refl _ _).grown hg1 (Nat.le_refl _) (fun _ e => by cases e)
    have HO1 := Lib.hid hown1
    have HB1 := Lib.hid hbw1
    clear hown1 hg1 hbw1
    go_wp2
    go_loopw [4, 5, 6] (fun v i _ wr => ∃ k : Nat, k ≤ n ∧ i = .int .i64 (24 * (k : Int)) ∧ wr.ownsRow w.heap.size 26 6 v k (Sy.flat (tabS zs k)) ∧ Below w.heap.size w wr) (fun _ i _ _ => 24 * n - (intOf i).toNat)
    case atStart => exact ⟨0, Nat.zero_le _, rfl, HO1.out, HB1.out⟩
    case round =>
      obtain ⟨k, hk, rfl, hown, hbel⟩ := hrel
      by_cases hlt : k < n
      · have hki : 24 * (k : Int) < 24 * n := by omega
        have hkl : 24 * (k : Int) < len := by omega
        have hkl2 : 24 * (k : Int) + 24 ≤ len := by omega
        have HBYW := Lib.hid (HBY.out.below (hbel.mono hB))
        obtain ⟨b, off, rfl, hbB, hcell⟩ := HBYW.out.2.2 (by omega)
        have hsub := HBYW.out.sub (p := 24 * k) (n := 24) (by omega)
        have HE := Lib.hid (fun cap' => entry_ok B (some ⟨b, off + 24 * k, none⟩) cap' k zs wr hsub (Nat.le_trans hB hbel.size) HZB.out (by rw [HZL.out]; omega))
        have HTS := Lib.hid (tabS_succ zs k)
        have hok := symAt_ok (zs := zs) (k := k) HZB.out (by rw [HZL.out]; omega)
        generalize symAt zs k = s at HE HTS hok
        have HOC := Lib.hid (one_cells s)
        obtain ⟨na, inf, ot, se, va, si⟩ := s
        unfold Sy.val at HE
        simp only at HE HOC
        have HOW := Lib.hid hown
        have HBE := Lib.hid hbel
        have hbs := hbel.size
        clear hown hbel hsub hcell hok
        have hn1 : (24 * (k : Int)).toNat = 24 * k := by omega
        have hn2 : (24 * (k : Int) + 24).toNat = 24 * k + 24 := by omega
        go_wp2_with fail
        refine (HE.out _).mono ?_
        rintro r w3 ⟨rfl, hb3⟩
        have HO3 := Lib.hid (Sy.own_below HOW.out hb3)
        have HB3 := Lib.hid (HBE.out.trans (hb3.mono hbs))
        clear hb3
        go_wp2_with (at_builtin; refine wpList_append_own _ rfl _ _ 32 rfl w.heap.size 26 i0 _ 6 24 Try.underlying32 HI.out HZ0.out HZ1.out HZ2.out rfl (by decide) _ k _ rfl (HO3.out.alloc _) _ 1 1 [.int .u32 na, .int .u8 inf, .int .u8 ot, .int .u16 se, .int .u64 va, .int .u64 si] rfl rfl ?d1 ?d2 ?d3 ?d4 ?d5 ?_)
        case d1 => exact cells_new w3 [.int .u32 na, .int .u8 inf, .int .u8 ot, .int .u16 se, .int .u64 va, .int .u64 si] _ _ rfl
        case d2 => exact HOC.out
        case d3 => unfold maxLen; omega
        case d4 => omega
        case d5 => have := HB3.out.size; simp; omega
        intro v4 w4 hown4 hg4 _
        have HO4 : Hid (w4.ownsRow w.heap.size 26 6 v4 (k + 1) (Sy.flat (tabS zs (k + 1)))) := Lib.hid (by rw [HTS.out, Sy.flat_snoc]; exact hown4)
        have hb4 : Below w.heap.size w w4 := (HB3.out.alloc HB3.out.size _).grown hg4 (by have := HB3.out.size; simp; omega) (fun q e => (HO3.out.lt q e).1)
        clear hown4 hg4
        go_wp2
        go_roundw
        case rel => exact ⟨k + 1, by omega, by go_num, HO4.out, hb4⟩
        case measure => (simp [intOf] <;> omega)
      · obtain rfl : k = n := by omega
        have hkl : ¬ 24 * (k : Int) < len := by omega
        have HOW := Lib.hid hown
        have HBE := Lib.hid hbel
        clear hown hbel
        go_wp2
        go_ret2
        exact ⟨⟨_, rfl, by rw [HTL.out]; exact HOW.out⟩, HBE.out⟩
  · have HR : Hid (tabY zs = (10, [])) := Lib.hid (by unfold tabY; rw [HZL.out, if_neg hm])
    rw [HR.out]
    have hmb : ((len : Int) % 24 != 0) = true := by
      rw [bne_iff_ne]; omega
    clear hb hm
    go_enter Try.func14, Try.ntmps14
    go_wp2
    go_ret2
    exact ⟨⟨_, rfl, World.ownsRow_nil _ _ _ _⟩, Below.refl _ _⟩
end Go.Proofs.Ytpodnhieaboddaa
