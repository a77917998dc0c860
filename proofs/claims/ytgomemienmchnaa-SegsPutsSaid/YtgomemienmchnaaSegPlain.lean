/-
  What is proved here: small functions of package segs and of its reference: the bytes of a number, the number at a place, whether there is such a kind of segments, whether a span lies in another one.
  Conditions: none but that the arguments are values of their types.
-/
import Derived.Test.YtgomemienmchnaaSegWords
import Derived.Test.YtgomemienmchnaaOSet
import Derived.Test.YtgomemienmchnaaORGet
namespace Go.Proofs.Ytgomemienmchnaa
open Go.RowKit
set_option linter.unusedVariables false

theorem setB_noughts (x : Int) (n : Nat) : setB (List.replicate n 0) 0 x n = digs x n := by
  simp [setB, List.drop_eq_nil_of_le]
theorem replicate_map (n : Nat) : List.replicate n (Value.int .u8 0) = (List.replicate n (0 : Int)).map (Value.int .u8) := by
  rw [List.map_replicate]

/-- What a call that makes bytes hands back: a slice that reads as zs. -/
def Made (zs : List Int) (u : Value) (w : World) : Prop := ∃ g c, u = .slice (some ⟨g, 0, none⟩) zs.length c ∧ zs.length ≤ c ∧ (c : Int) ≤ 9223372036854775807 ∧ Bys w w.heap.size (some ⟨g, 0, none⟩) zs.length zs
/-- A row of bytes of the call's own is such a slice. -/
theorem own_made {w : World} {base : Nat} {u : Value} {zs : List Int} (h : w.ownsRow base 5 1 u zs.length (zs.map (Value.int .u8))) (h0 : 0 < zs.length) (hz : ∀ n ∈ zs, 0 ≤ n ∧ n ≤ 255) : Made zs u w := by
  obtain ⟨g, c, rfl, _⟩ := own_some h h0
  have hcap : zs.length ≤ c ∧ c ≤ maxLen := by
    rcases h.2 with ⟨hx, _⟩ | ⟨g, c, cur, hx, _, _, h3, h4, _⟩
    · cases hx
    · injection hx with _ _ hx; subst hx; exact ⟨h3, h4⟩
  exact ⟨g, c, rfl, hcap.1, by have := hcap.2; unfold maxLen at this; omega, Bys.own hz h⟩
theorem Made.below {zs : List Int} {u : Value} {w w' : World} (h : Made zs u w) (hb : Below w.heap.size w w') : Made zs u w' := by
  obtain ⟨g, c, e, h1, h2, h3⟩ := h
  exact ⟨g, c, e, h1, h2, (h3.below hb).more hb.size⟩

set_option maxHeartbeats 800000 in
theorem number_ok (x : Int) (n : Nat) (w : World) (h : n = 1 ∨ n = 2 ∨ n = 4 ∨ n = 8) (x0 : 0 ≤ x) (x1 : x ≤ 18446744073709551615) :
    Calls Try.prog 26 #[.int .u64 x, .int .i64 n] w fun r w' => (∃ u, r = .returned u ∧ Made (digs x n) u w') ∧ Below w.heap.size w w' := by
  obtain ⟨i0, hi, hz0, hz1, hz2⟩ := info_parts info_u8
  have Hn := Lib.hid h
  have hn8 : n ≤ 8 := by omega
  have HI := Lib.hid hi
  have HZ0 := Lib.hid hz0
  have HZ1 := Lib.hid hz1
  have HZ2 := Lib.hid hz2
  clear h hi hz0 hz1 hz2
  go_enter Try.func26, Try.ntmps26
  go_wp2_with (at_make; refine wpList_make_full _ rfl _ _ 27 rfl w.heap.size 5 i0 (.int .u8 0) 1 Try.underlying27 HI.out HZ0.out HZ1.out .i64 .i64 _ _ n rfl rfl rfl rfl ?c1 ?c2 ?c3 ?_)
  case c1 => rw [HZ2.out]; omega
  case c2 => unfold maxLen; omega
  case c3 => exact Nat.le_refl _
  intro w1 hown hg
  have hb1 : Below w.heap.size w w1 := (Below.refl _ _).grown hg (Nat.le_refl _) (fun _ e => by cases e)
  rw [toList_madeCells_one, replicate_map] at hown
  have HBY := Lib.hid (Bys.own (zs := List.replicate n 0) (fun m hm => by rw [List.eq_of_mem_replicate hm]; omega) hown)
  clear hown hg
  go_wp2_with (go_at_call 42; refine (set_ok _ _ _ _ (List.replicate n 0) 0 n x _ HBY.out (Nat.le_refl _) Hn.out (by omega) (by omega) x0 x1).mono ?_)
  rintro e w2 ⟨rfl, hown, hb2⟩
  rw [setB_noughts] at hown
  have hby := Bys.own (digs_bd x n) hown
  have HM : Hid (Made (digs x n) (.slice (some ⟨w1.heap.size, 0, none⟩) n n) w2) := Lib.hid (by
    refine ⟨w1.heap.size, n, by rw [digs_len], by rw [digs_len]; exact Nat.le_refl _, by omega, ?_⟩
    rw [digs_len]; exact hby)
  have hbb := hb1.trans (hb2.mono hb1.size)
  clear hown hby hb1 hb2
  go_wp2
  go_ret
  exact ⟨⟨_, rfl, HM.out⟩, hbb⟩

set_option maxHeartbeats 400000 in
theorem read_ok (B : Nat) (a : Option Addr) (len cap : Nat) (zs : List Int) (p n : Nat) (w : World) (hb : Bys w B a len zs) (h : n = 1 ∨ n = 2 ∨ n = 4 ∨ n = 8) (hl : (len : Int) ≤ 9223372036854775807) (hs : p + n ≤ len) :
    Calls Try.prog 27 #[.slice a len cap, .int .u64 p, .int .i64 n] w fun e w' => e = .returned (.int .u64 (num (piece zs p n))) ∧ w = w' := by
  have HB := Lib.hid hb
  have Hn := Lib.hid h
  clear hb h
  go_enter Try.func27, Try.ntmps27
  go_wp2_with (go_at_call 43; refine (get_ok _ _ _ _ _ _ _ _ HB.out Hn.out hl hs).mono ?_; rintro e w' ⟨rfl, rfl⟩)
  go_ret
  exact ⟨rfl, rfl⟩

set_option maxHeartbeats 400000 in
theorem rat_ok (B : Nat) (a : Option Addr) (len cap : Nat) (zs : List Int) (p n : Nat) (w : World) (hb : Bys w B a len zs) (h : n = 1 ∨ n = 2 ∨ n = 4 ∨ n = 8) (hl : (len : Int) ≤ 9223372036854775807) (hs : p + n ≤ len) :
    Calls Try.prog 29 #[.slice a len cap, .int .u64 p, .int .i64 n] w fun e w' => e = .returned (.int .u64 (num (piece zs p n))) ∧ w = w' := by
  have HB := Lib.hid hb
  have Hn := Lib.hid h
  clear hb h
  go_enter Try.func29, Try.ntmps29
  go_wp2_with (go_at_call 44; refine (rget_ok _ _ _ _ _ _ _ _ HB.out Hn.out hl hs).mono ?_; rintro e w' ⟨rfl, rfl⟩)
  go_ret
  exact ⟨rfl, rfl⟩

set_option maxHeartbeats 400000 in
theorem known_any (k : Int) (w : World) : Calls Try.prog 47 #[.int .u32 k] w fun e w' => e = .returned (.bool (knownB k)) ∧ w = w' := by
  obtain ⟨b, hb⟩ : ∃ b, knownB k = b := ⟨_, rfl⟩
  rw [hb]
  have HB := Lib.hid hb
  clear hb
  go_enter Try.func47, Try.ntmps47
  go_wp2
  all_goals go_ret
  all_goals refine ⟨ret_bool ?_, rfl⟩
  all_goals rw [← HB.out]; simp [knownB, *]

set_option maxHeartbeats 400000 in
theorem contains4_any (p m q n : Int) (w : World) (p0 : 0 ≤ p) (p1 : p ≤ 18446744073709551615) (m0 : 0 ≤ m) (m1 : m ≤ 18446744073709551615) (q0 : 0 ≤ q) (q1 : q ≤ 18446744073709551615) (n0 : 0 ≤ n) (n1 : n ≤ 18446744073709551615) :
    Calls Try.prog 40 #[.int .u64 p, .int .u64 m, .int .u64 q, .int .u64 n] w fun e w' => e = .returned (.bool (contB p m q n)) ∧ w = w' := by
  obtain ⟨b, hb⟩ : ∃ b, contB p m q n = b := ⟨_, rfl⟩
  rw [hb]
  have HB := Lib.hid hb
  clear hb
  by_cases h1 : p ≤ q
  · have e1 : IntKind.u64.wrap (q - p) = q - p := by rw [IntKind.wrap_u64]; omega
    by_cases h2 : q - p ≤ m
    · have e2 : IntKind.u64.wrap (m - (q - p)) = m - (q - p) := by rw [IntKind.wrap_u64]; omega
      go_enter Try.func40, Try.ntmps40
      go_wp2
      all_goals go_ret
      all_goals refine ⟨ret_bool ?_, rfl⟩
      all_goals (rw [← HB.out]; simp [contB, *] <;> (intros; omega))
    · go_enter Try.func40, Try.ntmps40
      go_wp2
      all_goals go_ret
      all_goals refine ⟨ret_bool ?_, rfl⟩
      all_goals (rw [← HB.out]; simp [contB, *] <;> (intros; omega))
  · go_enter Try.func40, Try.ntmps40
    go_wp2
    all_goals go_ret
    all_goals refine ⟨ret_bool ?_, rfl⟩
    all_goals (rw [← HB.out]; simp [contB, *] <;> (intros; omega))
end Go.Proofs.Ytgomemienmchnaa
