/-
  What is proved here: IndexByte of packages bytes and strings at the byte 0; Clone of package bytes; the small functions of package notes: padded, size, anyZero, write, read, pad; Find.
  Conditions: none but that the arguments are values of their types.
-/
import Derived.Test.YtkgakdlalmmdiaaNotModel
import Derived.Test.YtkgakdlalmmdiaaNotBack
import Derived.Test.YtkgakdlalmmdiaaAppU
import Derived.Test.YtkgakdlalmmdiaaOSet
import Derived.Test.YtkgakdlalmmdiaaOCut
import Derived.Test.YtkgakdlalmmdiaaOUp
import Derived.Lib.BytesEntry
import Derived.Lib.LazyBuf
namespace Go.Proofs.Ytkgakdlalmmdiaa
open Go.RowKit
set_option linter.unusedVariables false
set_option linter.unusedSimpArgs false

/-! ### the first byte 0 -/
theorem firstZ_or : ∀ zs : List Int, NoZ zs ∨ ∃ k, FirstZ zs k
  | [] => .inl (fun i h => absurd h (Nat.not_lt_zero _))
  | x :: r => by
    by_cases hx : x = 0
    · exact .inr ⟨0, by simp, hx, fun i h => absurd h (Nat.not_lt_zero _)⟩
    · rcases firstZ_or r with h | ⟨k, h1, h2, h3⟩
      · refine .inl fun i hi => ?_
        cases i with
        | zero => exact hx
        | succ i => exact h i (by simpa using hi)
      · refine .inr ⟨k + 1, by simpa using h1, h2, fun i hi => ?_⟩
        cases i with
        | zero => exact hx
        | succ i => exact h3 i (by omega)
theorem byte_zero {x : Int} (h0 : 0 ≤ x) (h1 : x ≤ 255) : (UInt8.ofNat x.toNat == (0 : UInt8)) = decide (x = 0) := by
  obtain ⟨m, rfl⟩ := Int.eq_ofNat_of_zero_le h0
  have hm : m < 256 := by omega
  rw [Bool.eq_iff_iff]
  simp only [beq_iff_eq, decide_eq_true_eq, Int.toNat_natCast]
  constructor
  · intro e
    have := congrArg UInt8.toNat e
    simp [Nat.mod_eq_of_lt hm] at this
    omega
  · intro e
    obtain rfl : m = 0 := by omega
    rfl
theorem idx_none : ∀ {zs : List Int}, (∀ n ∈ zs, 0 ≤ n ∧ n ≤ 255) → NoZ zs → Lib.indexByte (Lib.bytesOf zs) 0 = -1
  | [], _, _ => rfl
  | x :: r, hb, h => by
    have hx := hb x (by simp)
    have ih := idx_none (zs := r) (fun n hn => hb n (by simp [hn])) (fun i hi => h (i + 1) (by simpa using hi))
    have h0 : x ≠ 0 := h 0 (by simp)
    simp only [Lib.bytesOf, List.map_cons, Lib.indexByte, byte_zero hx.1 hx.2, h0, decide_false, Bool.false_eq_true, if_false]
    have ih' : Lib.indexByte (List.map (fun n => UInt8.ofNat n.toNat) r) 0 = -1 := ih
    rw [ih']; rfl
theorem idx_some : ∀ {zs : List Int} {k : Nat}, (∀ n ∈ zs, 0 ≤ n ∧ n ≤ 255) → FirstZ zs k → Lib.indexByte (Lib.bytesOf zs) 0 = (k : Int)
  | [], k, _, h => absurd h.1 (Nat.not_lt_zero _)
  | x :: r, k, hb, h => by
    have hx := hb x (by simp)
    cases k with
    | zero =>
      have h0 : x = 0 := h.2.1
      simp only [Lib.bytesOf, List.map_cons, Lib.indexByte, h0]; rfl
    | succ k =>
      have ih := idx_some (zs := r) (k := k) (fun n hn => hb n (by simp [hn])) ⟨by simpa using h.1, h.2.1, fun i hi => h.2.2 (i + 1) (by omega)⟩
      have h0 : x ≠ 0 := h.2.2 0 (by omega)
      have ih' : Lib.indexByte (List.map (fun n => UInt8.ofNat n.toNat) r) 0 = k := ih
      have hne : ((k : Int) == -1) = false := by rw [beq_eq_false_iff_ne]; omega
      simp only [Lib.bytesOf, List.map_cons, Lib.indexByte, byte_zero hx.1 hx.2, h0, decide_false, Bool.false_eq_true, if_false, ih', hne]
      omega
theorem bytesOf_bs (s : ByteArray) : Lib.bytesOf (bs s) = s.data.toList := by
  unfold Lib.bytesOf bs
  rw [List.map_map]
  conv => rhs; rw [← List.map_id s.data.toList]
  refine List.map_congr_left fun n _ => ?_
  simp

set_option maxHeartbeats 1000000 in
set_option maxRecDepth 100000 in
theorem bidx_any (B : Nat) (a : Option Addr) (n c : Nat) (zs : List Int) (r : Int) (w : World) (hb : Bys w B a n zs) (hn : 0 < n) (hr : Lib.indexByte (Lib.bytesOf zs) 0 = r) :
    Calls Try.prog 37 #[.slice a n c, .int .u8 0] w fun e w' => e = .returned (.int .i64 r) ∧ w = w' := by
  obtain ⟨hz, _, hat⟩ := hb
  obtain ⟨b, o, rfl, _, hcell⟩ := hat hn
  have hrun := Lib.hid (Lib.run_indexByteSlice (P := Try.prog) w b o n c zs hz hcell 0)
  have HR : Hid (Lib.indexByte (Lib.bytesOf zs) (0 : Int).toNat.toUInt8 = r) := Lib.hid hr
  clear hcell hat hz hr
  go_enter Try.func37, Try.ntmps37
  go_wp2
  rw [run_callFunc_extern Try.func43 (by kernel_rfl) (by kernel_rfl) (by kernel_rfl) (e := Extern.BytealgIndexByte.indexByte) (by kernel_rfl), hrun.out, HR.out]
  simp only [Result.andThen]
  rw [Oper.upon_value]
  go_wp2
  go_ret
  exact ⟨rfl, rfl⟩

set_option maxHeartbeats 1000000 in
set_option maxRecDepth 100000 in
theorem slidx_any (s : ByteArray) (r : Int) (w : World) (hr : Lib.indexByte s.data.toList 0 = r) :
    Calls Try.prog 39 #[.string s, .int .u8 0] w fun e w' => e = .returned (.int .i64 r) ∧ w = w' := by
  have hrun := Lib.hid (Lib.run_indexByteString (P := Try.prog) s 0 w)
  have HR : Hid (Lib.indexByte s.data.toList (0 : Int).toNat.toUInt8 = r) := Lib.hid hr
  clear hr
  go_enter Try.func39, Try.ntmps39
  go_wp2
  rw [run_callFunc_extern Try.func44 (by kernel_rfl) (by kernel_rfl) (by kernel_rfl) (e := Extern.BytealgIndexByte.indexByte) (by kernel_rfl), hrun.out, HR.out]
  simp only [Result.andThen]
  rw [Oper.upon_value]
  go_wp2
  go_ret
  exact ⟨rfl, rfl⟩
theorem sidx_any (s : ByteArray) (r : Int) (w : World) (hr : Lib.indexByte s.data.toList 0 = r) :
    Calls Try.prog 30 #[.string s, .int .u8 0] w fun e w' => e = .returned (.int .i64 r) ∧ w = w' := by
  have HR := Lib.hid hr
  clear hr
  go_enter Try.func30, Try.ntmps30
  go_wp2_with (go_at_call 39; refine (slidx_any _ _ _ HR.out).mono ?_; rintro e w' ⟨rfl, rfl⟩)
  go_ret
  exact ⟨rfl, rfl⟩


/-! ### lengths -/
theorem four_p2 : IsP2 4 := ⟨2, by decide, rfl⟩
set_option maxHeartbeats 800000 in
theorem npadded_ok (n : Nat) (w : World) (hn : n ≤ 1000000000000000000) :
    Calls Try.prog 31 #[.int .u64 n] w fun e w' => e = .returned (.int .u64 (upN n : Nat)) ∧ w = w' := by
  have HP := Lib.hid four_p2
  obtain ⟨u, hu⟩ : ∃ u : Nat, upN n = u := ⟨_, rfl⟩
  have hu2 : u = (n + 3) / 4 * 4 := by rw [← hu]; rfl
  rw [hu]
  clear hu
  by_cases h : (n : Int) / 4 * 4 = n
  · obtain rfl : u = n := by omega
    clear hu2
    go_enter Try.func31, Try.ntmps31
    go_wp2_with (go_at_call 40; refine (up_same _ 4 _ (by omega) (by omega) HP.out h).mono ?_; rintro e w' ⟨rfl, rfl⟩)
    go_ret
    exact ⟨rfl, rfl⟩
  · have hq : ((u : Nat) : Int) = (n : Int) / 4 * 4 + 4 := by omega
    rw [hq]
    clear hq hu2
    have HH := Lib.hid h
    clear h
    go_enter Try.func31, Try.ntmps31
    go_wp2_with (go_at_call 40; refine (up_next _ 4 _ (by omega) (by omega) HP.out HH.out (by omega)).mono ?_; rintro e w' ⟨rfl, rfl⟩)
    go_ret
    exact ⟨rfl, rfl⟩

theorem fr16 (y : Nat → Value) : frameOf 16 y = #[y 0, y 1, y 2, y 3, y 4, y 5, y 6, y 7, y 8, y 9, y 10, y 11, y 12, y 13, y 14, y 15] := rfl
set_option maxRecDepth 100000 in
set_option maxHeartbeats 1600000 in
theorem nsize_ok (na : ByteArray) (ty : Int) (a : Option Addr) (n c : Nat) (w : World) (hn : na.size ≤ 1000000) (hd : n ≤ 1000000) :
    Calls Try.prog 19 #[.agg #[.string na, .int .u32 ty, .slice a n c]] w fun e w' => e = .returned (.int .u64 (12 + upN (na.size + 1) + upN n : Nat)) ∧ Below w.heap.size w w' := by
  have HP1 := Lib.hid (fun w1 => npadded_ok (na.size + 1) w1 (by omega))
  have HP2 := Lib.hid (fun w1 => npadded_ok n w1 (by omega))
  have h1 := upN_le (na.size + 1)
  have h2 := upN_le n
  rw [show ((na.size + 1 : Nat) : Int) = (na.size : Int) + 1 by omega] at HP1
  obtain ⟨u, hu⟩ : ∃ u, upN (na.size + 1) = u := ⟨_, rfl⟩
  obtain ⟨v, hv⟩ : ∃ v, upN n = v := ⟨_, rfl⟩
  rw [hu] at HP1 h1
  rw [hv] at HP2 h2
  rw [hu, hv]
  have hni : (na.size : Int) ≤ 1000000 := by omega
  have hdi : (n : Int) ≤ 1000000 := by omega
  have hui : (u : Int) ≤ 1000004 := by omega
  have hvi : (v : Int) ≤ 1000004 := by omega
  clear hu hv h1 h2
  have HBE : Hid (∀ o k, Below w.heap.size w ((w.alloc o).drewN k)) := Lib.hid (fun o k => below_drewN ((Below.refl _ _).alloc (Nat.le_refl _) o) _)
  go_enter Try.func19, Try.ntmps19
  go_wp2_with fail
  go_quiet (first | (go_at_call 31; with_reducible refine Calls.quiet_of_same ((HP1.out _).mono fun _ _ h => ⟨h.1, h.2.symm⟩)) | (go_at_call 31; with_reducible refine Calls.quiet_of_same ((HP2.out _).mono fun _ _ h => ⟨h.1, h.2.symm⟩)))
  go_wp2
  go_ret
  refine ⟨?_, HBE.out _ _⟩
  rw [show ((12 + u + v : Nat) : Int) = 12 + (u : Int) + (v : Int) by omega]
  rfl
/-! ### a byte 0 in a name -/
theorem nidx_no {s : ByteArray} (h : NoZ (bs s)) (w : World) :
    Calls Try.prog 30 #[.string s, .int .u8 0] w fun e w' => e = .returned (.int .i64 (-1)) ∧ w = w' :=
  sidx_any s (-1) w (by rw [← bytesOf_bs]; exact idx_none (bs_bd s) h)
theorem nidx_yes {s : ByteArray} {k : Nat} (h : FirstZ (bs s) k) (w : World) :
    Calls Try.prog 30 #[.string s, .int .u8 0] w fun e w' => e = .returned (.int .i64 k) ∧ w = w' :=
  sidx_any s k w (by rw [← bytesOf_bs]; exact idx_some (bs_bd s) h)
set_option maxRecDepth 100000 in
set_option maxHeartbeats 1600000 in
theorem nzero_no (B : Nat) (a : Option Addr) (len cap : Nat) (L : List Nt) (w : World) (hs : Nt.Sl w B a len L) (hB : B ≤ w.heap.size) (hl : (len : Int) ≤ 9223372036854775807) (hc : ∀ i, i < len → NoZ (bs (L.getD i Nt.zero).na)) :
    Calls Try.prog 18 #[.slice a len cap] w fun e w' => e = .returned (.bool false) ∧ Below w.heap.size w w' := by
  have HC := Lib.hid hc
  have HS := Lib.hid hs
  clear hc hs
  go_enter Try.func18, Try.ntmps18
  go_wp2
  go_loopw [7] (fun i wr => ∃ k : Nat, k ≤ len ∧ i = .int .i64 k ∧ Below w.heap.size w wr) (fun i _ => len - (intOf i).toNat)
  case atStart => exact ⟨0, Nat.zero_le _, rfl, Below.refl _ _⟩
  case round =>
    obtain ⟨k, hk, rfl, hbel⟩ := hrel
    have HB := Lib.hid hbel
    clear hbel
    by_cases hlt : k < len
    · obtain ⟨b, off, rfl, hbB, hcell⟩ := HS.out.hc (by omega)
      obtain ⟨c0, c1, c2⟩ := (hcell k hlt).below (HB.out.mono hB) hbB
      have HX := Lib.hid (fun wx => nidx_no (HC.out k hlt) wx)
      have hlti : (k : Int) < len := by omega
      have HB2 : Hid (∀ o, Below w.heap.size w (wr.alloc o)) := Lib.hid (fun o => HB.out.alloc HB.out.size o)
      generalize L.getD k Nt.zero = s at c0 c1 c2 HX
      clear hcell
      go_wp2_with (go_at_call 30; refine (HX.out _).mono ?_; rintro e w' ⟨rfl, rfl⟩)
      go_roundw
      case rel => exact ⟨k + 1, by omega, by go_num, HB2.out _⟩
      case measure => simp [intOf]; omega
    · obtain rfl : k = len := by omega
      go_wp2
      go_ret
      exact ⟨rfl, HB.out⟩
set_option maxRecDepth 100000 in
set_option maxHeartbeats 1600000 in
theorem nzero_yes (B : Nat) (a : Option Addr) (len cap : Nat) (L : List Nt) (w : World) (n m : Nat) (hs : Nt.Sl w B a len L) (hB : B ≤ w.heap.size) (hl : (len : Int) ≤ 9223372036854775807) (hn : n < len) (hc : ∀ i, i < n → NoZ (bs (L.getD i Nt.zero).na)) (hm : FirstZ (bs (L.getD n Nt.zero).na) m) :
    Calls Try.prog 18 #[.slice a len cap] w fun e w' => e = .returned (.bool true) ∧ Below w.heap.size w w' := by
  have HC := Lib.hid hc
  have HM := Lib.hid hm
  have HS := Lib.hid hs
  have hni : (n : Int) < len := by omega
  clear hc hs hm
  go_enter Try.func18, Try.ntmps18
  go_wp2
  go_loopw [7] (fun i wr => ∃ k : Nat, k ≤ n ∧ i = .int .i64 k ∧ Below w.heap.size w wr) (fun i _ => len - (intOf i).toNat)
  case atStart => exact ⟨0, Nat.zero_le _, rfl, Below.refl _ _⟩
  case round =>
    obtain ⟨k, hk, rfl, hbel⟩ := hrel
    have HB := Lib.hid hbel
    clear hbel
    obtain ⟨b, off, rfl, hbB, hcell⟩ := HS.out.hc (by omega)
    obtain ⟨c0, c1, c2⟩ := (hcell k (by omega)).below (HB.out.mono hB) hbB
    have hlti : (k : Int) < len := by omega
    have HB2 : Hid (∀ o, Below w.heap.size w (wr.alloc o)) := Lib.hid (fun o => HB.out.alloc HB.out.size o)
    by_cases hlt : k < n
    · have HX := Lib.hid (fun wx => nidx_no (HC.out k hlt) wx)
      generalize L.getD k Nt.zero = s at c0 c1 c2 HX
      clear hcell
      go_wp2_with (go_at_call 30; refine (HX.out _).mono ?_; rintro e w' ⟨rfl, rfl⟩)
      go_roundw
      case rel => exact ⟨k + 1, by omega, by go_num, HB2.out _⟩
      case measure => simp [intOf]; omega
    · obtain rfl : k = n := by omega
      have HX := Lib.hid (fun wx => nidx_yes HM.out wx)
      generalize L.getD k Nt.zero = s at c0 c1 c2 HX
      clear hcell
      go_wp2_with (go_at_call 30; refine (HX.out _).mono ?_; rintro e w' ⟨rfl, rfl⟩)
      go_ret
      exact ⟨rfl, HB2.out _⟩
theorem nzero_any (B : Nat) (a : Option Addr) (len cap : Nat) (L : List Nt) (w : World) (hs : Nt.Sl w B a len L) (hB : B ≤ w.heap.size) (hl : (len : Int) ≤ 9223372036854775807) :
    Calls Try.prog 18 #[.slice a len cap] w fun e w' => e = .returned (.bool ((L.map Nt.nd).any zeroIn)) ∧ Below w.heap.size w w' := by
  have hle := hs.hl
  rcases zeros_or L with ⟨hz, hany⟩ | ⟨n, m, hn, hz, hm, hany⟩
  · rw [hany]; exact nzero_no B a len cap L w hs hB hl (fun i hi => hz i (by omega))
  · rw [hany]; exact nzero_yes B a len cap L w n m hs hB hl (by omega) hz hm
/-! ### numbers, padding -/
theorem Blk.grown {w w' : World} {g : Nat} {C : Array Value} {t : TypeId} {r : Option Nat} (h : Blk w g C t) (hg : w.grownBy w' r) (hr : some g ≠ r) : Blk w' g C t := by
  have hl := h.lt
  unfold Blk at *
  rw [hg.block g hl hr, h]
/-- A row of the call's own doesn't lie in a block of another type. -/
theorem own_not_blk {w : World} {base n g : Nat} {e t : TypeId} {v : Value} {xs : List Value} {C : Array Value} (h : w.ownsRow base e 1 v n xs) (hb : Blk w g C t) (ht : t ≠ e) : some g ≠ v.ownBlock := by
  rcases h.2 with ⟨rfl, _⟩ | ⟨g', c, cur, rfl, _, hg, _⟩
  · intro e; cases e
  · intro he
    injection he with he
    subst he
    unfold Blk at hb
    rw [hg] at hb
    injection hb with hb
    injection hb with _ hb
    exact ht hb.symm
theorem setB_noughts (x : Int) (n : Nat) : setB (List.replicate n 0) 0 x n = digs x n := by
  simp [setB, List.drop_eq_nil_of_le]
theorem replicate_map (n : Nat) : List.replicate n (Value.int .u8 0) = (List.replicate n (0 : Int)).map (Value.int .u8) := by
  rw [List.map_replicate]
set_option maxHeartbeats 800000 in
theorem nwrite_ok (x : Int) (w : World) (x0 : 0 ≤ x) (x1 : x ≤ 18446744073709551615) :
    Calls Try.prog 32 #[.int .u64 x] w fun r w' => (∃ g, r = .returned (.slice (some ⟨g, 0, none⟩) 4 4) ∧ Bys w' w'.heap.size (some ⟨g, 0, none⟩) 4 (digs x 4)) ∧ Below w.heap.size w w' := by
  obtain ⟨i0, hi, hz0, hz1, hz2⟩ := info_parts info_u8
  have HI := Lib.hid hi
  have HZ0 := Lib.hid hz0
  have HZ1 := Lib.hid hz1
  have HZ2 := Lib.hid hz2
  clear hi hz0 hz1 hz2
  go_enter Try.func32, Try.ntmps32
  go_wp2_with (at_make; refine wpList_make_full _ rfl _ _ 25 rfl w.heap.size 5 i0 (.int .u8 0) 1 Try.underlying25 HI.out HZ0.out HZ1.out .i64 .i64 _ _ 4 rfl rfl rfl rfl ?c1 ?c2 ?c3 ?_)
  case c1 => rw [HZ2.out]; omega
  case c2 => unfold maxLen; omega
  case c3 => exact Nat.le_refl _
  intro w1 hown hg
  have hb1 : Below w.heap.size w w1 := (Below.refl _ _).grown hg (Nat.le_refl _) (fun _ e => by cases e)
  rw [toList_madeCells_one, replicate_map] at hown
  have HBY := Lib.hid (Bys.own (zs := List.replicate 4 0) (fun m hm => by rw [List.eq_of_mem_replicate hm]; omega) hown)
  clear hown hg
  go_wp2_with fail
  refine (set_ok _ _ _ _ (List.replicate 4 0) 0 4 x _ HBY.out (Nat.le_refl _) (by decide) (by omega) (by omega) x0 x1).mono ?_
  rintro e w2 ⟨rfl, hown, hb2⟩
  rw [setB_noughts] at hown
  have HM := Lib.hid (Bys.own (digs_bd x 4) hown)
  have hbb := hb1.trans (hb2.mono hb1.size)
  clear hown hb1 hb2
  go_wp2
  go_ret
  exact ⟨⟨_, rfl, HM.out⟩, hbb⟩
set_option maxHeartbeats 400000 in
theorem nread_ok (B : Nat) (a : Option Addr) (len cap : Nat) (zs : List Int) (p : Nat) (w : World) (hb : Bys w B a len zs) (hl : (len : Int) ≤ 9223372036854775807) (hs : p + 4 ≤ len) :
    Calls Try.prog 35 #[.slice a len cap, .int .u64 p] w fun e w' => e = .returned (.int .u64 (num (piece zs p 4))) ∧ w = w' := by
  have HB := Lib.hid hb
  clear hb
  go_enter Try.func35, Try.ntmps35
  go_wp2_with (go_at_call 42; refine (get_ok _ _ _ _ _ _ 4 _ HB.out (by decide) hl hs).mono ?_; rintro e w' ⟨rfl, rfl⟩)
  go_ret
  exact ⟨rfl, rfl⟩
set_option maxRecDepth 100000 in
set_option maxHeartbeats 800000 in
theorem npad_r (base : Nat) (v : Value) (zs : List Int) (w : World) (ho : Rw base w v zs) (hbase : base ≤ w.heap.size) (hm : zs.length ≤ 1000000) :
    Calls Try.prog 33 #[v] w fun r w' => ∃ v', r = .returned v' ∧ Rw base w' v' (padN zs) ∧ Below base w w' ∧ ∀ g C t, t ≠ 5 → Blk w g C t → Blk w' g C t := by
  obtain ⟨i0, hi, hz0, hz1, hz2⟩ := info_parts info_u8
  obtain ⟨a, c, rfl⟩ := own_slice ho
  have HO := Lib.hid ho
  have HI := Lib.hid hi
  have HZ0 := Lib.hid hz0
  have HZ1 := Lib.hid hz1
  have HZ2 := Lib.hid hz2
  have HPL := Lib.hid (padN_len zs)
  have HPD : Hid (padN zs = zs ++ List.replicate (upN zs.length - zs.length) 0) := Lib.hid rfl
  have HP := Lib.hid (fun wx => npadded_ok zs.length wx (by omega))
  have hup := upN_le zs.length
  unfold Rw at HO
  obtain ⟨m, hme⟩ : ∃ m, zs.length = m := ⟨_, rfl⟩
  rw [hme] at HO HP HPL HPD hup hm
  obtain ⟨u, hu⟩ : ∃ u, upN m = u := ⟨_, rfl⟩
  rw [hu] at HP HPL HPD hup
  have hmi : (m : Int) ≤ 1000000 := by omega
  have hui : (u : Int) ≤ 1000003 := by omega
  have hmu : (m : Int) ≤ u := by omega
  have hsub : (u : Int) - (m : Int) = ((u - m : Nat) : Int) := by omega
  rw [hme]
  clear hi hz0 hz1 hz2 ho hme hu
  go_enter Try.func33, Try.ntmps33
  go_wp2_with fail
  refine (HP.out _).mono ?_
  rintro r w1 ⟨rfl, rfl⟩
  go_wp2_with (at_builtin; refine wpList_append_noughts .u64 rfl _ _ 25 48 rfl base 5 i0 (.int .u8 0) Try.underlying25 Try.underlying48 HI.out HZ0.out HZ1.out HZ2.out rfl rfl _ m _ rfl HO.out (u - m) rfl ?c1 ?c2 hbase ?_)
  case c1 => rw [IntWalk.i64_left]; exact IntWalk.wrap64_in _ (by omega)
  case c2 => omega
  intro v2 w2 hown hg
  have HO2 : Hid (w2.ownsRow base 5 1 v2 u ((padN zs).map (Value.int .u8))) := Lib.hid (by
    rw [HPD.out, List.map_append, List.map_replicate]
    exact hown)
  have HB2 : Hid (Below base w w2) := Lib.hid ((Below.refl _ _).grown hg hbase (fun q e => (HO.out.lt q e).1))
  have HKP : Hid (∀ g C t, t ≠ 5 → Blk w g C t → Blk w2 g C t) := Lib.hid (fun g C t ht hk => hk.grown hg (own_not_blk HO.out hk ht))
  clear hown hg
  go_wp2
  go_ret
  exact ⟨_, rfl, (by unfold Rw; rw [HPL.out]; exact HO2.out), HB2.out, HKP.out⟩
/-! ### Find -/
set_option maxRecDepth 100000 in
set_option maxHeartbeats 800000 in
theorem nclone_ok (B : Nat) (a : Option Addr) (n c : Nat) (zs : List Int) (w : World) (hb : Bys w B a n zs) (hB : B ≤ w.heap.size) (hnil : a = none → c = 0) (hn : n ≤ 1000000) :
    Calls Try.prog 29 #[.slice a n c] w fun r w' => (∃ u, r = .returned u ∧ Rw w.heap.size w' u zs) ∧ Below w.heap.size w w' := by
  obtain ⟨i0, hi, hz0, hz1, hz2⟩ := info_parts info_u8
  have HI := Lib.hid hi
  have HZ0 := Lib.hid hz0
  have HZ1 := Lib.hid hz1
  have HZ2 := Lib.hid hz2
  have HBY := Lib.hid hb
  have HNIL := Lib.hid hnil
  clear hi hz0 hz1 hz2 hb hnil
  cases a with
  | none =>
    have h0 : n = 0 := by
      rcases Nat.eq_zero_or_pos n with h0 | h0
      · exact h0
      · obtain ⟨b, off, e, _⟩ := HBY.out.2.2 h0
        cases e
    subst h0
    obtain rfl := HNIL.out rfl
    have hz : zs = [] := List.eq_nil_of_length_eq_zero HBY.out.1
    subst hz
    have hq : ∀ wx, (binOp .eql 25 (.slice none 0 0) (.slice none 0 0)).run Try.prog wx = .ok (.bool true) wx := fun wx => by
      have h := Try.underlying25
      simp [binOp, Op.equal, Op.maxDepth, Lib.run_equalIn_slice_nil wx 9999 _ _ none 0 0 0 0 h]
    go_enter Try.func29, Try.ntmps29
    go_wp2
    go_ret
    exact ⟨⟨_, rfl, World.ownsRow_nil _ _ _ _⟩, Below.refl _ _⟩
  | some ad =>
    have hq : ∀ wx, (binOp .eql 25 (.slice (some ad) n c) (.slice none 0 0)).run Try.prog wx = .ok (.bool false) wx := fun wx => by
      have h := Try.underlying25
      simp [binOp, Op.equal, Op.maxDepth, Lib.run_equalIn_slice_nil wx 9999 _ _ (some ad) n c 0 0 h]
    go_enter Try.func29, Try.ntmps29
    have HSZ : Hid (n = zs.length) := Lib.hid HBY.out.1.symm
    have HO0 : Hid ((w.alloc (.cells #[] 5)).ownsRow w.heap.size 5 1 (.slice (some ⟨w.heap.size, 0, none⟩) 0 0) 0 ([] : List Value)) := Lib.hid ⟨rfl, .inr ⟨_, _, _, rfl, Nat.le_refl _, Blk.new w #[] _, Nat.le_refl _, by decide, rfl, rfl⟩⟩
    have hbl : Below w.heap.size w (w.alloc (.cells #[] 5)) := (Below.refl _ _).alloc (Nat.le_refl _) _
    have HBL := Lib.hid hbl
    have HBY2 := Lib.hid (HBY.out.below (hbl.mono hB))
    clear hbl
    go_wp2_with (at_builtin; refine wpList_append_bys rfl _ _ 25 rfl w.heap.size 5 i0 (.int .u8 0) 1 Try.underlying25 HI.out HZ0.out HZ1.out HZ2.out rfl _ 0 _ rfl HO0.out _ n c _ zs rfl HBY2.out (fun e => by cases e) ?e1 ?e2 ?e3 ?_)
    case e1 => unfold maxLen; omega
    case e2 => omega
    case e3 => simp
    intro v2 w2 hown hg
    have HO2 : Hid (Rw w.heap.size w2 v2 zs) := Lib.hid (by
      unfold Rw; rw [← HSZ.out]; simpa using hown)
    have HB2 : Hid (Below w.heap.size w w2) := Lib.hid (HBL.out.grown hg HBL.out.size (fun q e => (HO0.out.lt q e).1))
    clear hown hg
    go_wp2
    go_ret
    exact ⟨⟨_, rfl, HO2.out⟩, HB2.out⟩
theorem find_at {L : List Nd} {p : Nd → Bool} {k : Nat} {d : Nd} (hk : k < L.length) (h : ∀ j, j < k → p (L.getD j d) = false) (hp : p (L.getD k d) = true) : L.find? p = some (L.getD k d) := by
  induction L generalizing k with
  | nil => exact absurd hk (Nat.not_lt_zero _)
  | cons x r ih =>
    cases k with
    | zero =>
      have hp' : p x = true := hp
      rw [List.find?_cons_of_pos hp']
      rfl
    | succ k =>
      have h0 : p x = false := h 0 (by omega)
      rw [List.find?_cons_of_neg (by rw [h0]; decide)]
      exact ih (by simpa using hk) (fun j hj => h (j + 1) (by omega)) hp
/-- What Find tells: the bytes in new memory, and whether there is one. -/
def FindPost (F : Option (List Int)) (w : World) (e : Ending) (w' : World) : Prop :=
  (∃ u, e = .returned (.tuple #[u, .bool F.isSome]) ∧ Rw w.heap.size w' u (F.getD [])) ∧ Below w.heap.size w w'
theorem isN_nd (s : Nt) (name : ByteArray) (kind : Int) : isN (bs name) kind s.nd = (decide (s.na = name) && decide (s.ty = kind)) := by
  unfold isN Nt.nd
  simp only
  congr 1
  by_cases h : s.na = name
  · rw [h]; simp
  · have : ¬ bs s.na = bs name := fun e => h (by rw [← strOfNums_bs s.na, e, strOfNums_bs])
    simp [h, this]
theorem findN_none {L : List Nt} {name : List Int} {kind : Int} (h : ∀ j, j < L.length → isN name kind (L.getD j Nt.zero).nd = false) : findN (L.map Nt.nd) name kind = none := by
  unfold findN
  rw [List.find?_eq_none.2]
  · rfl
  · intro x hx
    obtain ⟨s, hs, rfl⟩ := List.mem_map.1 hx
    obtain ⟨i, hi, rfl⟩ := List.getElem_of_mem hs
    have := h i hi
    rw [List.getD_eq_getElem?_getD, List.getElem?_eq_getElem hi] at this
    simpa using this
theorem findN_some {L : List Nt} {name : List Int} {kind : Int} {k : Nat} (hk : k < L.length) (h : ∀ j, j < k → isN name kind (L.getD j Nt.zero).nd = false) (hp : isN name kind (L.getD k Nt.zero).nd = true) : findN (L.map Nt.nd) name kind = some (L.getD k Nt.zero).de.zs := by
  have hm : ∀ j, (L.map Nt.nd).getD j Nt.zero.nd = (L.getD j Nt.zero).nd := fun j => by
    rw [List.getD_eq_getElem?_getD, List.getD_eq_getElem?_getD, List.getElem?_map]
    cases L[j]? <;> rfl
  unfold findN
  rw [find_at (k := k) (d := Nt.zero.nd) (by rw [List.length_map]; exact hk) (fun j hj => by rw [hm]; exact h j hj) (by rw [hm]; exact hp), hm]
  rfl
set_option maxRecDepth 100000 in
set_option maxHeartbeats 1600000 in
theorem nfind_any (B : Nat) (a : Option Addr) (len cap : Nat) (L : List Nt) (name : ByteArray) (kind : Int) (w : World) (hs : Nt.Sl w B a len L) (hB : B ≤ w.heap.size) (hl : len ≤ 1000000) (hF : ∀ s ∈ L, s.de.n ≤ 900000) (hcap : len ≤ cap) (hcm : (cap : Int) ≤ 9223372036854775807) (hn : name.size ≤ maxLen) (k0 : 0 ≤ kind) (k1 : kind ≤ 4294967295) :
    Calls Try.prog 17 #[.slice a len cap, .string name, .int .u32 kind] w (FindPost (findN (L.map Nt.nd) (bs name) kind) w) := by
  have HS := Lib.hid hs
  have HFF := Lib.hid hF
  obtain ⟨F, hFe⟩ : ∃ F, findN (L.map Nt.nd) (bs name) kind = F := ⟨_, rfl⟩
  have HNO : Hid ((∀ j, j < len → isN (bs name) kind (L.getD j Nt.zero).nd = false) → F = none) := Lib.hid (fun h => hFe ▸ findN_none (fun j hj => h j (by rw [← hs.hl]; exact hj)))
  have HYES : Hid (∀ k, k < len → (∀ j, j < k → isN (bs name) kind (L.getD j Nt.zero).nd = false) → isN (bs name) kind (L.getD k Nt.zero).nd = true → F = some (L.getD k Nt.zero).de.zs) := Lib.hid (fun k hk h1 h2 => hFe ▸ findN_some (by rw [hs.hl]; exact hk) h1 h2)
  rw [hFe]
  clear hs hF hFe
  go_enter Try.func17, Try.ntmps17
  go_wp2
  go_loopw [12] (fun i wr => ∃ k : Nat, k ≤ len ∧ i = .int .i64 k ∧ (∀ j, j < k → isN (bs name) kind (L.getD j Nt.zero).nd = false) ∧ Below w.heap.size w wr) (fun i _ => len - (intOf i).toNat)
  case atStart => exact ⟨0, Nat.zero_le _, rfl, fun j hj => absurd hj (by omega), Below.refl _ _⟩
  case round =>
    obtain ⟨k, hk, rfl, hno, hbel⟩ := hrel
    have HB := Lib.hid hbel
    have HN := Lib.hid hno
    clear hbel hno
    by_cases hlt : k < len
    · obtain ⟨b, off, rfl, hbB, hcell⟩ := HS.out.hc (by omega)
      obtain ⟨c0, c1, c2⟩ := (hcell k hlt).below (HB.out.mono hB) hbB
      have hok := (HS.out.okAt hlt).below (HB.out.mono hB)
      have hde := HFF.out _ (Nt.getD_mem (L := L) (k := k) (by rw [HS.out.hl]; exact hlt))
      have HY := Lib.hid (HYES.out k hlt HN.out)
      have HX : Hid (isN (bs name) kind (L.getD k Nt.zero).nd = false → ∀ j, j < k + 1 → isN (bs name) kind (L.getD j Nt.zero).nd = false) := Lib.hid (fun h => upto_no (P := fun j => isN (bs name) kind (L.getD j Nt.zero).nd) HN.out h)
      rw [isN_nd] at HY HX
      have hlti : (k : Int) < len := by omega
      have hok2 := Lib.hid hok
      have HBX : Hid (∀ o, Below w.heap.size w (wr.alloc o)) := Lib.hid (fun o => HB.out.alloc HB.out.size o)
      generalize L.getD k Nt.zero = s at c0 c1 c2 hok hok2 hde HY HX
      obtain ⟨na, ty, de⟩ := s
      simp only at c0 c1 c2 hde HY HX
      have HCL : Hid (∀ o, Calls Try.prog 29 #[.slice de.a de.n de.c] (wr.alloc o) fun r w' => (∃ u, r = .returned u ∧ Rw (wr.alloc o).heap.size w' u de.zs) ∧ Below (wr.alloc o).heap.size (wr.alloc o) w') := Lib.hid (fun o => nclone_ok B de.a de.n de.c de.zs _ (hok2.out.de.bys.below (((Below.refl _ _).alloc (Nat.le_refl _) o).mono (Nat.le_trans hB HB.out.size))) (by simp; have := HB.out.size; omega) hok2.out.de.nil (by omega))
      clear hcell hok
      by_cases q1 : na = name
      · subst q1
        have q1b : (na.toList == na.toList) = true := by simp
        by_cases q2 : ty = kind
        · subst q2
          have q2b : (ty == ty) = true := by simp
          have HF2 := Lib.hid (HY.out (by simp))
          go_wp2_with fail
          refine (HCL.out _).mono ?_
          rintro r w2 ⟨⟨u, rfl, ho⟩, hb2⟩
          have HO := Lib.hid ho
          have HB2 := Lib.hid ((HBX.out _).trans (hb2.mono (HBX.out _).size))
          obtain rfl := HF2.out
          have hz := HB.out.size
          clear ho hb2
          go_wp2
          go_ret2
          exact ⟨⟨_, rfl, own_base HO.out (by simp; omega)⟩, HB2.out⟩
        · have q2b : (ty == kind) = false := by simpa using q2
          have HF2 := Lib.hid (HX.out (by simp [q2]))
          go_wp2
          go_roundw
          case rel => exact ⟨k + 1, by omega, by go_num, HF2.out, HBX.out _⟩
          case measure => simp [intOf]; omega
      · have q1b := str_ne q1
        have q1c : ¬ na.toList = name.toList := fun e => q1 (str_inj e)
        have HF2 := Lib.hid (HX.out (by simp [q1]))
        go_wp2
        go_roundw
        case rel => exact ⟨k + 1, by omega, by go_num, HF2.out, HBX.out _⟩
        case measure => simp [intOf]; omega
    · obtain rfl : k = len := by omega
      obtain rfl := HNO.out HN.out
      go_wp2
      go_ret2
      exact ⟨⟨_, rfl, World.ownsRow_nil _ _ _ _⟩, HB.out⟩
end Go.Proofs.Ytkgakdlalmmdiaa
