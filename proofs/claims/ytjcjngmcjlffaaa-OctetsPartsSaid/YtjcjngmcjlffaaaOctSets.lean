/-
  What is proved here: Set and Cut of package octets return the bytes that the document says, in new memory, or the error that it names; nothing that was there is written.
  Conditions: slices of at most 2^47 bytes, values of their types.
-/
import Derived.Test.YtjcjngmcjlffaaaOctPlain
import Derived.Test.YtjcjngmcjlffaaaOctGets
import Derived.Laws.CopyOwn
namespace Go.Proofs.Ytjcjngmcjlffaaa
open Go.RowKit
set_option linter.unusedVariables false

/-- The lowest k bytes of a number. -/
def digs (x : Int) : Nat → List Int
  | 0 => []
  | k + 1 => digs x k ++ [x / 256 ^ k % 256]
theorem digs_len (x : Int) : ∀ k, (digs x k).length = k
  | 0 => rfl
  | k + 1 => by simp [digs, digs_len x k]
theorem digs_bd (x : Int) : ∀ k, ∀ n ∈ digs x k, 0 ≤ n ∧ n ≤ 255
  | 0 => by simp [digs]
  | k + 1 => by
    intro n hn
    rcases List.mem_append.1 hn with h | h
    · exact digs_bd x k n h
    · obtain rfl := List.mem_singleton.1 h; omega
theorem emod_mul_nat (x a b : Nat) : (x : Int) % (a : Int) + (a : Int) * ((x : Int) / (a : Int) % (b : Int)) = (x : Int) % ((a : Int) * (b : Int)) := by
  have := Nat.mod_mul (x := x) (a := a) (b := b)
  have h2 := congrArg (fun n : Nat => (n : Int)) this
  simp only [Int.natCast_add, Int.natCast_mul, Int.natCast_emod, Int.natCast_ediv] at h2
  exact h2.symm
theorem num_digs {x : Int} (x0 : 0 ≤ x) : ∀ k, num (digs x k) = x % 256 ^ k
  | 0 => by simp [digs, num, Int.emod_one]
  | k + 1 => by
    rw [digs, num_snoc, num_digs x0 k, digs_len, Int.pow_succ]
    obtain ⟨y, rfl⟩ := Int.eq_ofNat_of_zero_le x0
    have := emod_mul_nat y (256 ^ k) 256
    rw [Int.natCast_pow] at this
    exact this

/-- zs with k bytes of x laid over it from p on. -/
def setB (zs : List Int) (p : Nat) (x : Int) (k : Nat) : List Int := zs.take p ++ (digs x k ++ zs.drop (p + k))
theorem setB_zero (zs : List Int) (p : Nat) (x : Int) : setB zs p x 0 = zs := by simp [setB, digs]
theorem setB_len {zs : List Int} {p k : Nat} (x : Int) (h : p + k ≤ zs.length) : (setB zs p x k).length = zs.length := by
  simp only [setB, List.length_append, List.length_take, List.length_drop, digs_len]; omega
theorem setB_bd {zs : List Int} (p k : Nat) (x : Int) (h : ∀ n ∈ zs, 0 ≤ n ∧ n ≤ 255) : ∀ n ∈ setB zs p x k, 0 ≤ n ∧ n ≤ 255 := by
  intro n hn
  rcases List.mem_append.1 hn with hn | hn
  · exact h n (List.mem_of_mem_take hn)
  · rcases List.mem_append.1 hn with hn | hn
    · exact digs_bd x k n hn
    · exact h n (List.mem_of_mem_drop hn)
theorem setB_succ {zs : List Int} {p k : Nat} (x : Int) (h : p + k < zs.length) : (setB zs p x k).set (p + k) (x / 256 ^ k % 256) = setB zs p x (k + 1) := by
  unfold setB
  rw [List.set_append_right _ _ (by rw [List.length_take]; omega), List.length_take, Nat.min_eq_left (by omega), Nat.add_sub_cancel_left,
    List.set_append_right _ _ (by rw [digs_len]; omega), digs_len, Nat.sub_self, List.drop_eq_getElem_cons h, List.set_cons_zero, digs]
  simp [Nat.add_assoc]
theorem setB_piece {zs : List Int} {p k : Nat} (x : Int) (h : p + k ≤ zs.length) : piece (setB zs p x k) p k = digs x k := by
  unfold piece setB
  rw [List.drop_append, List.drop_eq_nil_of_le (by rw [List.length_take]; omega), List.nil_append, List.length_take, Nat.min_eq_left (by omega), Nat.sub_self, List.drop_zero, List.take_append, digs_len, Nat.sub_self, List.take_zero, List.append_nil, List.take_of_length_le (by rw [digs_len]; omega)]
theorem setB_other {zs : List Int} {p k i : Nat} (x : Int) (h : p + k ≤ zs.length) (hi : i < p ∨ p + k ≤ i) : (setB zs p x k).getD i 0 = zs.getD i 0 := by
  unfold setB
  rw [List.getD_eq_getElem?_getD, List.getD_eq_getElem?_getD]
  congr 1
  rcases hi with hi | hi
  · rw [List.getElem?_append_left (by rw [List.length_take]; omega), List.getElem?_take_of_lt hi]
  · rw [List.getElem?_append_right (by rw [List.length_take]; omega), List.length_take, Nat.min_eq_left (by omega), List.getElem?_append_right (by rw [digs_len]; omega), digs_len, List.getElem?_drop]
    congr 1; omega

/-- A row of the call's own that is full to its capacity is its block, whole. -/
theorem own_whole {w : World} {base g n : Nat} {e : TypeId} {xs : List Value} (h : w.ownsRow base e 1 (.slice (some ⟨g, 0, none⟩) n n) n xs) : w.heap[g]? = some (.cells xs.toArray e (0, 0)) := by
  obtain ⟨hl, ⟨hv, _⟩ | ⟨g', cap, cur, hv, _, hg, _, _, hs, ht⟩⟩ := h
  · cases hv
  · injection hv with h1 h2 h3
    injection h1 with h1
    injection h1 with h1
    subst h1; subst h3
    rw [hg]
    have : cur.toList.take (n * 1) = cur.toList := List.take_of_length_le (by rw [Array.length_toList]; omega)
    rw [this] at ht
    subst ht
    rfl
theorem own_of_whole {w : World} {base g n : Nat} {e : TypeId} {xs : List Value} (hb : base ≤ g) (hm : n ≤ maxLen) (hl : xs.length = n) (h : w.heap[g]? = some (.cells xs.toArray e (0, 0))) : w.ownsRow base e 1 (.slice (some ⟨g, 0, none⟩) n n) n xs :=
  ⟨by omega, .inr ⟨g, n, xs.toArray, rfl, hb, h, Nat.le_refl _, hm, by simpa using hl, by simpa using List.take_of_length_le (by omega)⟩⟩

theorem splice_all {α : Type} (L cs : List α) (h : L.length = cs.length) : splice L 0 cs = cs := by
  unfold splice
  rw [List.take_zero, List.nil_append, Nat.zero_add, List.drop_eq_nil_of_le (by omega), List.append_nil]

/-- The walk's own form of a byte of a number. -/
theorem shr_byte (x : Int) (k : Nat) : x / 2 ^ (8 * k) % 256 = x / 256 ^ k % 256 := by
  have hp : (2 : Int) ^ (8 * k) = 256 ^ k := by rw [Int.pow_mul]; rfl
  rw [hp]
theorem getElem_map_u8 {zs : List Int} {i : Nat} (h : i < zs.length) : (zs.map (Value.int .u8))[i]? = some (.int .u8 (zs.getD i 0)) := by
  rw [List.getElem?_map, List.getElem?_eq_getElem h, List.getD_eq_getElem?_getD, List.getElem?_eq_getElem h]; rfl

set_option maxHeartbeats 400000 in
theorem set_arg (a : Option Addr) (len cap : Nat) (p n x : Int) (w : World) (h1 : n ≠ 1) (h2 : n ≠ 2) (h4 : n ≠ 4) (h8 : n ≠ 8) :
    Calls Try.prog 14 #[.slice a len cap, .int .u64 p, .int .i64 n, .int .u64 x] w fun e w' => e = .returned (.tuple #[.slice none 0 0, .int .i64 1]) ∧ w = w' := by
  go_enter Try.func14, Try.ntmps14
  go_wp2_with (go_at_call 24; refine (check_arg _ _ _ _ _ _ h1 h2 h4 h8).mono ?_; rintro e w' ⟨rfl, rfl⟩)
  go_ret2
  exact ⟨rfl, rfl⟩

set_option maxHeartbeats 400000 in
theorem set_range (a : Option Addr) (len cap : Nat) (p n x : Int) (w : World) (h : n = 1 ∨ n = 2 ∨ n = 4 ∨ n = 8) (hl : (len : Int) ≤ 9223372036854775807) (hp0 : 0 ≤ p) (hp1 : p ≤ 18446744073709551615) (hs : (len : Int) < p + n) :
    Calls Try.prog 14 #[.slice a len cap, .int .u64 p, .int .i64 n, .int .u64 x] w fun e w' => e = .returned (.tuple #[.slice none 0 0, .int .i64 10]) ∧ w = w' := by
  have H := Lib.hid h
  clear h
  go_enter Try.func14, Try.ntmps14
  go_wp2_with (go_at_call 24; refine (check_range _ _ _ _ _ _ H.out hl hp0 hp1 hs).mono ?_; rintro e w' ⟨rfl, rfl⟩)
  go_ret2
  exact ⟨rfl, rfl⟩

theorem info_u8 : (Try.prog.info? 5).map (fun i => (i.zero, i.size, i.bytes)) = some (some (.int .u8 0), 1, 1) := by kernel_rfl
theorem size_u8 : (Try.prog.info? 5).map (·.size) = some 1 := by kernel_rfl

set_option maxHeartbeats 800000 in
theorem set_ok (B : Nat) (a : Option Addr) (len cap : Nat) (zs : List Int) (p n : Nat) (x : Int) (w : World) (hb : Bys w B a len zs) (hB : B ≤ w.heap.size) (h : n = 1 ∨ n = 2 ∨ n = 4 ∨ n = 8) (hl : len ≤ 140737488355328) (hs : p + n ≤ len) (x0 : 0 ≤ x) (x1 : x ≤ 18446744073709551615) :
    Calls Try.prog 14 #[.slice a len cap, .int .u64 p, .int .i64 n, .int .u64 x] w fun e w' =>
      e = .returned (.tuple #[.slice (some ⟨w.heap.size, 0, none⟩) len len, .int .i64 0]) ∧ w'.ownsRow w.heap.size 5 1 (.slice (some ⟨w.heap.size, 0, none⟩) len len) len ((setB zs p x n).map (Value.int .u8)) ∧ Below w.heap.size w w' := by
  obtain ⟨i0, hi, hz0, hz1, hz2⟩ := info_parts info_u8
  obtain ⟨hz, hbd, hat⟩ := hb
  obtain ⟨b, off, rfl, hbB, hcell⟩ := hat (by omega)
  clear hat
  have hn8 : n ≤ 8 := by omega
  have hsi : (p : Int) + (n : Int) ≤ (len : Int) := by omega
  have hli : (len : Int) ≤ 9223372036854775807 := by omega
  have Hn : Hid ((n : Int) = 1 ∨ (n : Int) = 2 ∨ (n : Int) = 4 ∨ (n : Int) = 8) := Lib.hid (by omega)
  have HC := Lib.hid hcell
  have HBD := Lib.hid hbd
  have HZ := Lib.hid hz
  have HI := Lib.hid hi
  have HZ0 := Lib.hid hz0
  have HZ1 := Lib.hid hz1
  have HZ2 := Lib.hid hz2
  clear h hcell hbd hz hi hz0 hz1 hz2
  go_enter Try.func14, Try.ntmps14
  go_wp2_with (first | (go_at_call 24; refine (check_ok _ _ _ _ _ _ Hn.out hli (by omega) hsi).mono ?_; rintro e w' ⟨rfl, rfl⟩) | (at_make; refine wpList_make_full _ rfl _ _ 22 rfl w.heap.size 5 i0 (.int .u8 0) 1 Try.underlying22 HI.out HZ0.out HZ1.out .i64 .i64 _ _ len rfl rfl rfl rfl ?c1 ?c2 ?c3 ?_))
  case c1 => rw [HZ2.out]; omega
  case c2 => unfold maxLen; omega
  case c3 => exact Nat.le_refl _
  intro w1 hown hg
  have hb1 : Below w.heap.size w w1 := (Below.refl _ _).grown hg (Nat.le_refl _) (fun _ e => by cases e)
  have HW := Lib.hid (own_whole hown)
  rw [toList_madeCells_one] at HW
  clear hown hg
  have hsrc := Bys.src (w := w1) (b := b) (off := off) HZ.out (fun i hi => (hb1.cell (p := ⟨b, off + i, none⟩) (by show b < _; omega)).trans (HC.out i hi))
  have HSRC := Lib.hid hsrc
  clear hsrc HC
  go_wp2_with (with_reducible refine wpList_copy_splice rfl _ _ 22 22 rfl 5 Try.underlying22 size_u8 _ _ _ _ _ _ rfl rfl w.heap.size 0 (List.replicate len (.int .u8 0)) 5 HW.out (zs.map (Value.int .u8)) ?d1 (fun _ => ⟨rfl, _, rfl, HSRC.out⟩) ?d3 ?d4 w.heap.size w hb1 (Nat.le_refl _) ?_)
  case d1 => rw [List.length_map, HZ.out]; exact (Nat.min_self len).symm
  case d3 => rw [List.length_map, List.length_replicate, HZ.out]; omega
  case d4 => exact one_u8 zs
  intro w2 HG hb2
  have HO := HG.out
  rw [splice_all _ _ (by rw [List.length_map, List.length_replicate, HZ.out])] at HO
  have HOWN := Lib.hid (own_of_whole (base := w.heap.size) (n := len) (Nat.le_refl _) (by unfold maxLen; omega) (by rw [List.length_map, HZ.out]) HO)
  clear HG HO HW HSRC hb1
  go_wp2
  go_loopw [12, 27] (fun _ i wr => ∃ k : Nat, k ≤ n ∧ i = .int .i64 k ∧ wr.ownsRow w.heap.size 5 1 (.slice (some ⟨w.heap.size, 0, none⟩) len len) len ((setB zs p x k).map (Value.int .u8)) ∧ Below w.heap.size w wr) (fun _ i _ => n - (intOf i).toNat)
  case atStart => exact ⟨0, Nat.zero_le _, rfl, by rw [setB_zero]; exact HOWN.out, hb2⟩
  case round =>
    obtain ⟨k, hk, rfl, hown, hbel⟩ := hrel
    by_cases hlt : k < n
    · have hlen := HZ.out
      have hsl := setB_len (zs := zs) (p := p) (k := k) x (by omega)
      have hc := hown.cellAt (p + k) (by omega)
      rw [getElem_map_u8 (by omega)] at hc
      have hf := hown.frozenAt (p + k)
      have hst := hown.stored (p + k) (.int .u8 (x / 256 ^ k % 256))
      rw [map_set_u8, setB_succ x (by omega)] at hst
      have hbs := hbel.setCell (p := ⟨w.heap.size, p + k, none⟩) (Nat.le_refl _) (.int .u8 (x / 256 ^ k % 256))
      have HST := Lib.hid hst
      have HBS := Lib.hid hbs
      have HSB := Lib.hid (shr_byte x k)
      clear hown hbel hst hbs hlen hsl
      go_wp2
      go_roundw
      case rel => exact ⟨k + 1, by omega, by go_num, by rw [HSB.out]; exact HST.out.1, by rw [HSB.out]; exact HBS.out⟩
      case measure => simp [intOf]; omega
    · obtain rfl : k = n := by omega
      have HOW := Lib.hid hown
      clear hown
      go_wp2
      go_ret2
      exact ⟨rfl, HOW.out, hbel⟩

set_option maxHeartbeats 400000 in
theorem cut_range (a : Option Addr) (len cap : Nat) (p s : Int) (w : World) (hl : (len : Int) ≤ 9223372036854775807) (hp0 : 0 ≤ p) (hp1 : p ≤ 18446744073709551615) (hs0 : 0 ≤ s) (hs1 : s ≤ 18446744073709551615) (h : (len : Int) < p + s) :
    Calls Try.prog 16 #[.slice a len cap, .int .u64 p, .int .u64 s] w fun e w' => e = .returned (.tuple #[.slice none 0 0, .int .i64 10]) ∧ w = w' := by
  go_enter Try.func16, Try.ntmps16
  go_wp2_with (go_at_call 27; refine (contains_no _ _ _ _ _ _ hl hp0 hp1 hs0 hs1 h).mono ?_; rintro e w' ⟨rfl, rfl⟩)
  go_ret2
  exact ⟨rfl, rfl⟩

set_option maxHeartbeats 800000 in
theorem cut_some (B : Nat) (a : Option Addr) (len cap : Nat) (zs : List Int) (p s : Nat) (w : World) (hb : Bys w B a len zs) (hB : B ≤ w.heap.size) (hcap : len ≤ cap) (hcm : (cap : Int) ≤ 9223372036854775807) (hl : len ≤ 140737488355328) (hs : p + s ≤ len) (h0 : 0 < s) :
    Calls Try.prog 16 #[.slice a len cap, .int .u64 p, .int .u64 s] w fun e w' =>
      e = .returned (.tuple #[.slice (some ⟨w.heap.size, 0, none⟩) s s, .int .i64 0]) ∧ w'.ownsRow w.heap.size 5 1 (.slice (some ⟨w.heap.size, 0, none⟩) s s) s ((piece zs p s).map (Value.int .u8)) ∧ Below w.heap.size w w' := by
  obtain ⟨i0, hi, hz0, hz1, hz2⟩ := info_parts info_u8
  have HBYS := Lib.hid hb
  have hsi : (p : Int) + (s : Int) ≤ (len : Int) := by omega
  have hli : (len : Int) ≤ 9223372036854775807 := by omega
  have hsl : s ≤ 140737488355328 := by omega
  have HI := Lib.hid hi
  have HZ0 := Lib.hid hz0
  have HZ1 := Lib.hid hz1
  have HZ2 := Lib.hid hz2
  have HPL := Lib.hid (piece_len (zs := zs) (p := p) (n := s) (by have := hb.1; omega))
  clear hb hi hz0 hz1 hz2
  go_enter Try.func16, Try.ntmps16
  go_wp2_with (first | (go_at_call 27; refine (contains_yes _ _ _ _ _ _ hli (by omega) (by omega) hsi).mono ?_; rintro e w' ⟨rfl, rfl⟩) | (at_make; refine wpList_make_full _ rfl _ _ 22 rfl w.heap.size 5 i0 (.int .u8 0) 1 Try.underlying22 HI.out HZ0.out HZ1.out .u64 .u64 _ _ s rfl rfl rfl rfl ?c1 ?c2 ?c3 ?_))
  case c1 => rw [HZ2.out]; omega
  case c2 => unfold maxLen; omega
  case c3 => exact Nat.le_refl _
  intro w1 hown hg
  have hb1 : Below w.heap.size w w1 := (Below.refl _ _).grown hg (Nat.le_refl _) (fun _ e => by cases e)
  have HW := Lib.hid (own_whole hown)
  rw [toList_madeCells_one] at HW
  clear hown hg
  obtain ⟨b, off, rfl, hbB, hcell⟩ := HBYS.out.2.2 (by omega)
  have HSRC := Lib.hid (Bys.src (w := w1) (b := b) (off := off + p) (zs := piece zs p s) (len := s) HPL.out (fun i hi => by
    rw [piece_getD hi, Nat.add_assoc]
    exact (hb1.cell (p := ⟨b, off + (p + i), none⟩) (by show b < _; omega)).trans (hcell (p + i) (by omega))))
  clear hcell
  go_wp2_with (with_reducible refine wpList_copy_splice rfl _ _ 22 22 rfl 5 Try.underlying22 size_u8 _ _ _ _ _ _ rfl rfl w.heap.size 0 (List.replicate s (.int .u8 0)) 5 HW.out ((piece zs p s).map (Value.int .u8)) ?d1 (fun _ => ⟨rfl, _, rfl, HSRC.out⟩) ?d3 ?d4 w.heap.size w hb1 (Nat.le_refl _) ?_)
  case d1 => rw [List.length_map, HPL.out]; rw [Nat.add_sub_cancel_left]; exact (Nat.min_self s).symm
  case d3 => rw [List.length_map, List.length_replicate, HPL.out]; omega
  case d4 => exact one_u8 _
  intro w2 HG hb2
  have HO := HG.out
  rw [splice_all _ _ (by rw [List.length_map, List.length_replicate, HPL.out])] at HO
  have HOWN := Lib.hid (own_of_whole (base := w.heap.size) (n := s) (Nat.le_refl _) (by unfold maxLen; omega) (by rw [List.length_map, HPL.out]) HO)
  clear HG HO HW HSRC hb1
  go_wp2
  go_ret2
  exact ⟨rfl, HOWN.out, hb2⟩

set_option maxHeartbeats 800000 in
theorem cut_none (B : Nat) (a : Option Addr) (len cap : Nat) (zs : List Int) (p s : Nat) (w : World) (hb : Bys w B a len zs) (hB : B ≤ w.heap.size) (hcap : len ≤ cap) (hcm : (cap : Int) ≤ 9223372036854775807) (hl : len ≤ 140737488355328) (hs : p + s ≤ len) (h0 : s = 0) :
    Calls Try.prog 16 #[.slice a len cap, .int .u64 p, .int .u64 s] w fun e w' =>
      e = .returned (.tuple #[.slice (some ⟨w.heap.size, 0, none⟩) s s, .int .i64 0]) ∧ w'.ownsRow w.heap.size 5 1 (.slice (some ⟨w.heap.size, 0, none⟩) s s) s ((piece zs p s).map (Value.int .u8)) ∧ Below w.heap.size w w' := by
  obtain ⟨i0, hi, hz0, hz1, hz2⟩ := info_parts info_u8
  have HBYS := Lib.hid hb
  have hsi : (p : Int) + (s : Int) ≤ (len : Int) := by omega
  have hli : (len : Int) ≤ 9223372036854775807 := by omega
  have hsl : s ≤ 140737488355328 := by omega
  have HI := Lib.hid hi
  have HZ0 := Lib.hid hz0
  have HZ1 := Lib.hid hz1
  have HZ2 := Lib.hid hz2
  have HPL := Lib.hid (piece_len (zs := zs) (p := p) (n := s) (by have := hb.1; omega))
  clear hb hi hz0 hz1 hz2
  clear HPL
  subst h0
  go_enter Try.func16, Try.ntmps16
  go_wp2_with (first | (go_at_call 27; refine (contains_yes _ _ _ _ _ _ hli (by omega) (by omega) hsi).mono ?_; rintro e w' ⟨rfl, rfl⟩) | (at_make; refine wpList_make_full _ rfl _ _ 22 rfl w.heap.size 5 i0 (.int .u8 0) 1 Try.underlying22 HI.out HZ0.out HZ1.out .u64 .u64 _ _ 0 rfl rfl rfl rfl ?c1 ?c2 ?c3 ?_))
  case c1 => rw [HZ2.out]; omega
  case c2 => unfold maxLen; omega
  case c3 => exact Nat.le_refl _
  intro w1 hown hg
  have hb1 : Below w.heap.size w w1 := (Below.refl _ _).grown hg (Nat.le_refl _) (fun _ e => by cases e)
  have HW := Lib.hid (own_whole hown)
  rw [toList_madeCells_one] at HW
  clear hown hg
  go_wp2_with (with_reducible refine wpList_copy_splice rfl _ _ 22 22 rfl 5 Try.underlying22 size_u8 _ _ _ _ _ _ rfl rfl w.heap.size 0 (List.replicate 0 (.int .u8 0)) 5 HW.out [] ?d1 (fun h => absurd h (by decide)) ?d3 ?d4 w.heap.size w hb1 (Nat.le_refl _) ?_)
  case d1 => rfl
  case d3 => exact Nat.le_refl _
  case d4 => exact fun _ h => by cases h
  all_goals
    intro w2 HG hb2
    have HOWN := Lib.hid (own_of_whole (xs := []) (base := w.heap.size) (n := 0) (Nat.le_refl _) (by unfold maxLen; omega) rfl (splice_all (List.replicate 0 (Value.int .u8 0)) [] rfl ▸ HG.out))
    clear HG HW hb1
    go_wp2
    go_ret2
    exact ⟨rfl, HOWN.out, hb2⟩

theorem cut_ok (B : Nat) (a : Option Addr) (len cap : Nat) (zs : List Int) (p s : Nat) (w : World) (hb : Bys w B a len zs) (hB : B ≤ w.heap.size) (hcap : len ≤ cap) (hcm : (cap : Int) ≤ 9223372036854775807) (hl : len ≤ 140737488355328) (hs : p + s ≤ len) :
    Calls Try.prog 16 #[.slice a len cap, .int .u64 p, .int .u64 s] w fun e w' =>
      e = .returned (.tuple #[.slice (some ⟨w.heap.size, 0, none⟩) s s, .int .i64 0]) ∧ w'.ownsRow w.heap.size 5 1 (.slice (some ⟨w.heap.size, 0, none⟩) s s) s ((piece zs p s).map (Value.int .u8)) ∧ Below w.heap.size w w' := by
  rcases Nat.eq_zero_or_pos s with h0 | h0
  · exact cut_none B a len cap zs p s w hb hB hcap hcm hl hs h0
  · exact cut_some B a len cap zs p s w hb hB hcap hcm hl hs h0
end Go.Proofs.Ytjcjngmcjlffaaa
