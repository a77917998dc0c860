/-
  What is proved here: IndexByte of packages bytes and strings at the byte 0; Check and At of package names and of the reference return what the document says.
  Conditions: none but that the arguments are values of their types.
-/
import Derived.Test.YtncnmgmkmjikcaaRows
import Derived.Test.YtncnmgmkmjikcaaBase
namespace Go.Proofs.Ytncnmgmkmjikcaa
open Go.RowKit
set_option linter.unusedVariables false

/-! ### the first byte 0 -/
def NoZ (zs : List Int) : Prop := ∀ i, i < zs.length → zs.getD i 0 ≠ 0
def FirstZ (zs : List Int) (k : Nat) : Prop := k < zs.length ∧ zs.getD k 0 = 0 ∧ ∀ i, i < k → zs.getD i 0 ≠ 0
theorem firstZ_or : ∀ zs : List Int, NoZ zs ∨ ∃ k, FirstZ zs k
  | [] => .inl (fun i h => absurd h (Nat.not_lt_zero _))
  | x :: r => by
    by_cases hx : x = 0
    · exact .inr ⟨0, by simp, hx, fun i h => absurd h (Nat.not_lt_zero _)⟩
    · rcases firstZ_or r with h | ⟨k, h1, h2, h3⟩
      · refine .inl fun i hi => ?_
        cases i with
        | zero => exact hx
        | succ i => exact h i (by simpa using hi)
      · refine .inr ⟨k + 1, by simpa using h1, h2, fun i hi => ?_⟩
        cases i with
        | zero => exact hx
        | succ i => exact h3 i (by omega)
theorem byte_zero {x : Int} (h0 : 0 ≤ x) (h1 : x ≤ 255) : (UInt8.ofNat x.toNat == (0 : UInt8)) = decide (x = 0) := by
  obtain ⟨m, rfl⟩ := Int.eq_ofNat_of_zero_le h0
  have hm : m < 256 := by omega
  rw [Bool.eq_iff_iff]
  simp only [beq_iff_eq, decide_eq_true_eq, Int.toNat_natCast]
  constructor
  · intro e
    have := congrArg UInt8.toNat e
    simp [Nat.mod_eq_of_lt hm] at this
    omega
  · intro e
    obtain rfl : m = 0 := by omega
    rfl
theorem idx_none : ∀ {zs : List Int}, (∀ n ∈ zs, 0 ≤ n ∧ n ≤ 255) → NoZ zs → Lib.indexByte (Lib.bytesOf zs) 0 = -1
  | [], _, _ => rfl
  | x :: r, hb, h => by
    have hx := hb x (by simp)
    have ih := idx_none (zs := r) (fun n hn => hb n (by simp [hn])) (fun i hi => h (i + 1) (by simpa using hi))
    have h0 : x ≠ 0 := h 0 (by simp)
    simp only [Lib.bytesOf, List.map_cons, Lib.indexByte, byte_zero hx.1 hx.2, h0, decide_false, Bool.false_eq_true, if_false]
    have ih' : Lib.indexByte (List.map (fun n => UInt8.ofNat n.toNat) r) 0 = -1 := ih
    rw [ih']; rfl
theorem idx_some : ∀ {zs : List Int} {k : Nat}, (∀ n ∈ zs, 0 ≤ n ∧ n ≤ 255) → FirstZ zs k → Lib.indexByte (Lib.bytesOf zs) 0 = (k : Int)
  | [], k, _, h => absurd h.1 (Nat.not_lt_zero _)
  | x :: r, k, hb, h => by
    have hx := hb x (by simp)
    cases k with
    | zero =>
      have h0 : x = 0 := h.2.1
      simp only [Lib.bytesOf, List.map_cons, Lib.indexByte, h0]; rfl
    | succ k =>
      have ih := idx_some (zs := r) (k := k) (fun n hn => hb n (by simp [hn])) ⟨by simpa using h.1, h.2.1, fun i hi => h.2.2 (i + 1) (by omega)⟩
      have h0 : x ≠ 0 := h.2.2 0 (by omega)
      have ih' : Lib.indexByte (List.map (fun n => UInt8.ofNat n.toNat) r) 0 = k := ih
      have hne : ((k : Int) == -1) = false := by rw [beq_eq_false_iff_ne]; omega
      simp only [Lib.bytesOf, List.map_cons, Lib.indexByte, byte_zero hx.1 hx.2, h0, decide_false, Bool.false_eq_true, if_false, ih', hne]
      omega
theorem bytesOf_bs (s : ByteArray) : Lib.bytesOf (bs s) = s.data.toList := by
  unfold Lib.bytesOf bs
  rw [List.map_map]
  conv => rhs; rw [← List.map_id s.data.toList]
  refine List.map_congr_left fun n _ => ?_
  simp

set_option maxHeartbeats 1000000 in
set_option maxRecDepth 100000 in
theorem bidx_any (B : Nat) (a : Option Addr) (n c : Nat) (zs : List Int) (r : Int) (w : World) (hb : Bys w B a n zs) (hn : 0 < n) (hr : Lib.indexByte (Lib.bytesOf zs) 0 = r) :
    Calls Try.prog 17 #[.slice a n c, .int .u8 0] w fun e w' => e = .returned (.int .i64 r) ∧ w = w' := by
  obtain ⟨hz, _, hat⟩ := hb
  obtain ⟨b, o, rfl, _, hcell⟩ := hat hn
  have hrun := Lib.hid (Lib.run_indexByteSlice (P := Try.prog) w b o n c zs hz hcell 0)
  have HR : Hid (Lib.indexByte (Lib.bytesOf zs) (0 : Int).toNat.toUInt8 = r) := Lib.hid hr
  clear hcell hat hz hr
  go_enter Try.func17, Try.ntmps17
  go_wp2
  rw [run_callFunc_extern Try.func19 (by kernel_rfl) (by kernel_rfl) (by kernel_rfl) (e := Extern.BytealgIndexByte.indexByte) (by kernel_rfl), hrun.out, HR.out]
  simp only [Result.andThen]
  rw [Oper.upon_value]
  go_wp2
  go_ret
  exact ⟨rfl, rfl⟩

set_option maxHeartbeats 1000000 in
set_option maxRecDepth 100000 in
theorem slidx_any (s : ByteArray) (r : Int) (w : World) (hr : Lib.indexByte s.data.toList 0 = r) :
    Calls Try.prog 21 #[.string s, .int .u8 0] w fun e w' => e = .returned (.int .i64 r) ∧ w = w' := by
  have hrun := Lib.hid (Lib.run_indexByteString (P := Try.prog) s 0 w)
  have HR : Hid (Lib.indexByte s.data.toList (0 : Int).toNat.toUInt8 = r) := Lib.hid hr
  clear hr
  go_enter Try.func21, Try.ntmps21
  go_wp2
  rw [run_callFunc_extern Try.func22 (by kernel_rfl) (by kernel_rfl) (by kernel_rfl) (e := Extern.BytealgIndexByte.indexByte) (by kernel_rfl), hrun.out, HR.out]
  simp only [Result.andThen]
  rw [Oper.upon_value]
  go_wp2
  go_ret
  exact ⟨rfl, rfl⟩
theorem sidx_any (s : ByteArray) (r : Int) (w : World) (hr : Lib.indexByte s.data.toList 0 = r) :
    Calls Try.prog 20 #[.string s, .int .u8 0] w fun e w' => e = .returned (.int .i64 r) ∧ w = w' := by
  have HR := Lib.hid hr
  clear hr
  go_enter Try.func20, Try.ntmps20
  go_wp2_with (go_at_call 21; refine (slidx_any _ _ _ HR.out).mono ?_; rintro e w' ⟨rfl, rfl⟩)
  go_ret
  exact ⟨rfl, rfl⟩

/-! ### Check -/
def chk (zs : List Int) : Int := if zs.length = 0 ∨ zs.getD 0 0 ≠ 0 ∨ zs.getD (zs.length - 1) 0 ≠ 0 then 11 else 0

set_option maxHeartbeats 400000 in
theorem check_any (B : Nat) (a : Option Addr) (len cap : Nat) (zs : List Int) (w : World) (hb : Bys w B a len zs) (hl : (len : Int) ≤ 9223372036854775807) :
    Calls Try.prog 12 #[.slice a len cap] w fun e w' => e = .returned (.int .i64 (chk zs)) ∧ w = w' := by
  obtain ⟨hz, hbd, hat⟩ := hb
  rcases Nat.eq_zero_or_pos len with h0 | h0
  · subst h0
    have hc : chk zs = 11 := by unfold chk; rw [if_pos (.inl hz)]
    rw [hc]
    clear hz hbd hat hc
    go_enter Try.func12, Try.ntmps12
    go_wp2
    go_ret
    exact ⟨rfl, rfl⟩
  · obtain ⟨b, off, rfl, _, hcell⟩ := hat h0
    have hn : decide (len = 0) = false := by simp; omega
    have hni : ((len : Int) == 0) = false := by rw [beq_eq_false_iff_ne]; omega
    have c0 := hcell 0 h0
    have c1 := hcell (len - 1) (by omega)
    rw [Nat.add_zero] at c0
    unfold chk
    rw [hz]
    have h1 : 1 ≤ len := h0
    have h1i : 1 ≤ (len : Int) := by omega
    obtain ⟨x, hx⟩ : ∃ x, x = zs.getD 0 0 := ⟨_, rfl⟩
    obtain ⟨y, hy⟩ : ∃ y, y = zs.getD (len - 1) 0 := ⟨_, rfl⟩
    rw [← hx] at c0 ⊢
    rw [← hy] at c1 ⊢
    clear hcell hat hz hbd hx hy
    by_cases hx0 : x = 0
    · subst hx0
      by_cases hy0 : y = 0
      · subst hy0
        rw [if_neg (by omega)]
        go_enter Try.func12, Try.ntmps12
        go_wp2
        go_ret
        exact ⟨rfl, rfl⟩
      · rw [if_pos (by omega)]
        go_enter Try.func12, Try.ntmps12
        go_wp2
        go_ret
        exact ⟨rfl, rfl⟩
    · rw [if_pos (by omega)]
      clear c1
      go_enter Try.func12, Try.ntmps12
      go_wp2
      go_ret
      exact ⟨rfl, rfl⟩

set_option maxHeartbeats 400000 in
theorem rcheck_any (B : Nat) (a : Option Addr) (len cap : Nat) (zs : List Int) (w : World) (hb : Bys w B a len zs) (hl : (len : Int) ≤ 9223372036854775807) :
    Calls Try.prog 13 #[.slice a len cap] w fun e w' => e = .returned (.int .i64 (chk zs)) ∧ w = w' := by
  obtain ⟨hz, hbd, hat⟩ := hb
  rcases Nat.eq_zero_or_pos len with h0 | h0
  · subst h0
    have hc : chk zs = 11 := by unfold chk; rw [if_pos (.inl hz)]
    rw [hc]
    clear hz hbd hat hc
    go_enter Try.func13, Try.ntmps13
    go_wp2
    go_ret
    exact ⟨rfl, rfl⟩
  · obtain ⟨b, off, rfl, _, hcell⟩ := hat h0
    have hn : decide (len = 0) = false := by simp; omega
    have hni : ((len : Int) == 0) = false := by rw [beq_eq_false_iff_ne]; omega
    have c0 := hcell 0 h0
    have c1 := hcell (len - 1) (by omega)
    rw [Nat.add_zero] at c0
    unfold chk
    rw [hz]
    have h1 : 1 ≤ len := h0
    have h1i : 1 ≤ (len : Int) := by omega
    obtain ⟨x, hx⟩ : ∃ x, x = zs.getD 0 0 := ⟨_, rfl⟩
    obtain ⟨y, hy⟩ : ∃ y, y = zs.getD (len - 1) 0 := ⟨_, rfl⟩
    rw [← hx] at c0 ⊢
    rw [← hy] at c1 ⊢
    clear hcell hat hz hbd hx hy
    by_cases hx0 : x = 0
    · subst hx0
      by_cases hy0 : y = 0
      · subst hy0
        rw [if_neg (by omega)]
        go_enter Try.func13, Try.ntmps13
        go_wp2
        go_ret
        exact ⟨rfl, rfl⟩
      · rw [if_pos (by omega)]
        go_enter Try.func13, Try.ntmps13
        go_wp2
        go_ret
        exact ⟨rfl, rfl⟩
    · rw [if_pos (by omega)]
      clear c1
      go_enter Try.func13, Try.ntmps13
      go_wp2
      go_ret
      exact ⟨rfl, rfl⟩

/-! ### At -/
set_option maxHeartbeats 400000 in
theorem at_range (a : Option Addr) (len cap : Nat) (p : Int) (w : World) (hl : (len : Int) ≤ 9223372036854775807) (hp : (len : Int) ≤ p) :
    Calls Try.prog 10 #[.slice a len cap, .int .u64 p] w fun e w' => e = .returned (.tuple #[.string .empty, .int .i64 10]) ∧ w = w' := by
  go_enter Try.func10, Try.ntmps10
  go_wp2
  go_ret2
  exact ⟨rfl, rfl⟩
set_option maxHeartbeats 400000 in
theorem at_form (B : Nat) (a : Option Addr) (len cap : Nat) (zs : List Int) (p : Nat) (w : World) (hb : Bys w B a len zs) (hcap : len ≤ cap) (hcm : (cap : Int) ≤ 9223372036854775807) (hp : p < len) (hz : NoZ (piece zs p (len - p))) :
    Calls Try.prog 10 #[.slice a len cap, .int .u64 p] w fun e w' => e = .returned (.tuple #[.string .empty, .int .i64 11]) ∧ w = w' := by
  obtain ⟨b, off, rfl, _, _⟩ := hb.2.2 (by omega)
  have HS := Lib.hid (hb.sub (p := p) (n := len - p) (by omega))
  have HI := Lib.hid (idx_none HS.out.2.1 hz)
  have hpi : (p : Int) < (len : Int) := by omega
  clear hb hz
  go_enter Try.func10, Try.ntmps10
  go_wp2_with (go_at_call 17; refine (bidx_any _ _ _ _ _ _ _ HS.out (by omega) HI.out).mono ?_; rintro e w' ⟨rfl, rfl⟩)
  go_ret2
  exact ⟨rfl, rfl⟩
end Go.Proofs.Ytncnmgmkmjikcaa
