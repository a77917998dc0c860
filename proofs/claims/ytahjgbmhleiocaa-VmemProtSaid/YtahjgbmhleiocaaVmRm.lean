/-
  What is proved here: the reference's small calls: find, may, Noughts. · the reference's there. · the reference's with: memory with a page, in the place of its like, or where it belongs. · the reference's Map.
  Conditions: as they say.
-/
import Derived.Test.YtahjgbmhleiocaaVmRw
import Derived.Test.YtahjgbmhleiocaaVmSml
import Derived.Test.YtahjgbmhleiocaaBaseP
import Derived.Test.YtahjgbmhleiocaaVmMap
import Derived.Laws.MakeOwn
import Derived.Test.YtahjgbmhleiocaaAppG
import Derived.Test.YtahjgbmhleiocaaVmFind
import Derived.Test.YtahjgbmhleiocaaVmAdd
import Derived.Laws.AppendOwn
namespace Go.Proofs.Ytahjgbmhleiocaa
open Go.RowKit
set_option linter.unusedVariables false
set_option linter.unusedSimpArgs false

/-- The reference's memory lies there. -/
structure RAt (w : World) (B : Nat) (a : Option Addr) (n c : Nat) (M : List Pg) : Prop where
  sl : Rp.Sl w B a n (rps M)
  le : n ≤ c
  mx : (c : Int) ≤ 9223372036854775807
  so : (M.map (·.a)).Pairwise (· < ·)
  ok : ∀ p ∈ M, p.Ok
  lm : M.length ≤ 512
theorem RAt.len {w : World} {B : Nat} {a : Option Addr} {n c : Nat} {M : List Pg} (h : RAt w B a n c M) : n = M.length := by rw [← h.sl.hl, rps_len]
theorem RAt.nd {w : World} {B : Nat} {a : Option Addr} {n c : Nat} {M : List Pg} (h : RAt w B a n c M) : (M.map (·.a)).Nodup := h.so.imp (fun h => Nat.ne_of_lt h)
theorem RAt.below {w w' : World} {B : Nat} {a : Option Addr} {n c : Nat} {M : List Pg} (h : RAt w B a n c M) (hb : Below B w w') : RAt w' B a n c M := ⟨h.sl.below hb, h.le, h.mx, h.so, h.ok, h.lm⟩
theorem RAt.more {w : World} {B B' : Nat} {a : Option Addr} {n c : Nat} {M : List Pg} (h : RAt w B a n c M) (hB : B ≤ B') : RAt w B' a n c M := ⟨h.sl.more hB, h.le, h.mx, h.so, h.ok, h.lm⟩
/-- The page number k: its cells. -/
theorem RAt.at {w : World} {B : Nat} {a : Option Addr} {n c : Nat} {M : List Pg} (h : RAt w B a n c M) {k : Nat} (hk : k < n) : ∃ b off, a = some ⟨b, off, none⟩ ∧ b < B ∧ Rp.At w b (off + k * 6) (rp (M.getD k pg0)) := by
  obtain ⟨b, off, e, hb, hc⟩ := h.sl.hc (by omega)
  have := hc k hk
  rw [rps_at (by rw [← h.len]; exact hk)] at this
  exact ⟨b, off, e, hb, this⟩
theorem RAt.empty (w : World) : RAt w w.heap.size none 0 0 [] := ⟨Rp.Sl.empty _ _ _, Nat.le_refl _, by decide, List.Pairwise.nil, fun _ h => (by cases h), Nat.zero_le _⟩
def mv (a : Option Addr) (n c : Nat) : Value := .agg #[.slice a n c]
set_option maxHeartbeats 3200000 in
set_option maxRecDepth 100000 in
theorem rfind_ok {w : World} {B : Nat} {a : Option Addr} {n c : Nat} {M : List Pg} (h : RAt w B a n c M) (hB : B ≤ w.heap.size) (x : Nat) (x1 : x ≤ 18446744073709551615) :
    Calls Try.prog 53 #[mv a n c, .int .u64 x] w fun e w' => e = .returned (.int .i64 (idxZ M (x / 256 * 256) 0)) ∧ w' = w.alloc (.cells #[.slice a n c] 34) := by
  have HH := Lib.hid h
  have hlm := h.lm
  have hln := h.len
  have hn5 : n ≤ 512 := by omega
  obtain ⟨A, hA⟩ : ∃ A, x / 256 * 256 = A := ⟨_, rfl⟩
  rw [hA]
  have hq : IntKind.u64.wrap ((x : Int) / 256 * 256) = A := by
    show ((x : Int) / 256 * 256) % 18446744073709551616 = _
    omega
  obtain ⟨Z, hZ⟩ : ∃ Z, idxZ M A 0 = Z := ⟨_, rfl⟩
  rw [hZ]
  have HZ := Lib.hid hZ
  have HB := Lib.hid hB
  unfold mv
  clear h hlm hln hA hZ hB
  go_enter Try.func53, Try.ntmps53
  go_wp2
  go_loop [5] (fun i => ∃ k : Nat, k ≤ n ∧ i = .int .i64 k ∧ Hid (idxZ (M.drop k) A k = Z)) (fun i => n - (intOf i).toNat)
  case atStart => exact ⟨0, Nat.zero_le _, by go_num, Lib.hid (by rw [List.drop_zero]; exact HZ.out)⟩
  case round =>
    obtain ⟨k, hk, rfl, HR⟩ := hrel
    by_cases hlt : k < n
    · have hlti : (k : Int) < n := by omega
      obtain ⟨b, off, rfl, hbB, hat⟩ := HH.out.at hlt
      have hc0 := (Below.refl w.heap.size w).alloc (Nat.le_refl _) (.cells #[.slice (some ⟨b, off, none⟩) n c] 34)
      obtain ⟨q, hq⟩ : ∃ q, M.getD k pg0 = q := ⟨_, rfl⟩
      rw [hq] at hat
      have c0 : (w.alloc (.cells #[.slice (some ⟨b, off, none⟩) n c] 34)).cell? ⟨b, off + k * 6, none⟩ = some (.int .u64 q.a) := (hat.below hc0 (by have := HB.out; omega)).c0
      have hd := idx_drop (M := M) (a := A) (i := k) (by rw [← HH.out.len]; exact hlt) k
      rw [HR.out, hq] at hd
      clear hq
      by_cases he : q.a = A
      · have heb : ((q.a : Int) == (A : Int)) = true := by rw [he]; simp
        rw [if_pos he] at hd
        have HD := Lib.hid hd
        clear hat hd he hc0
        go_wp2
        go_ret
        exact ⟨by rw [HD.out]; rfl, rfl⟩
      · have heb : ((q.a : Int) == (A : Int)) = false := by simp; omega
        rw [if_neg he] at hd
        have HD := Lib.hid hd
        have HK := Lib.hid hlt
        clear hat hd he hc0
        go_wp2
        refine ⟨⟨k + 1, HK.out, by go_num, Lib.hid (by rw [HD.out]; push_cast; rfl)⟩, by have := HK.out; simp [intOf]; omega⟩
    · have hlti : ¬ (k : Int) < n := by omega
      have HE : Hid (Z = -1) := Lib.hid (by rw [← HR.out, List.drop_eq_nil_of_le (by rw [← HH.out.len]; omega)]; rfl)
      go_wp2
      go_ret
      exact ⟨by rw [HE.out]; rfl, rfl⟩
def mayP (x n p : Int) : Bool := rangeP x n && protP p
set_option maxHeartbeats 3200000 in
set_option maxRecDepth 100000 in
theorem may_ok (w : World) (x n p : Int) (x0 : 0 ≤ x) (x1 : x ≤ 18446744073709551615) (n0 : 0 ≤ n) (n1 : n ≤ 18446744073709551615) : Calls Try.prog 28 #[.int .u64 x, .int .u64 n, .int .i64 p] w fun r w' => r = .returned (.bool (mayP x n p)) ∧ w = w' := by
  obtain ⟨Z, hZ⟩ : ∃ Z, mayP x n p = Z := ⟨_, rfl⟩
  rw [hZ]
  unfold mayP rangeP protP at hZ
  by_cases h4 : x ≤ 4294967296
  · have hw : IntKind.u64.wrap (4294967296 - x) = 4294967296 - x := by
      show (4294967296 - x) % 18446744073709551616 = _
      omega
    go_enter Try.func28, Try.ntmps28
    go_wp2
    all_goals
      go_ret
      refine ⟨ret_bool ?_, rfl⟩
      rw [← hZ]
      simp [*]
      try (intros; simp_all; omega)
  · go_enter Try.func28, Try.ntmps28
    go_wp2
    all_goals
      go_ret
      refine ⟨ret_bool ?_, rfl⟩
      rw [← hZ]
      simp [*]
      try (intros; simp_all; omega)
theorem zeros_len : zeros.length = 256 := by unfold zeros; exact List.length_replicate
theorem zeros_bd : ∀ n ∈ zeros, 0 ≤ n ∧ n ≤ 255 := fun n hn => by
  unfold zeros at hn
  rw [List.eq_of_mem_replicate hn]; exact ⟨by decide, by decide⟩
theorem made_zeros : (zeros.map (Value.int .u8)).toArray = madeCells #[.int .u8 0] 256 := by kernel_rfl
theorem run_zeros (w : World) : (Instr.makeSlice 25 (.int .i64 256) (.int .i64 256)).run Try.prog w = .ok (.slice (some ⟨w.heap.size, 0, none⟩) 256 256) (w.alloc (.cells (zeros.map (Value.int .u8)).toArray 5)) := by
  obtain ⟨i0, hi, hz0, hz1, hz2⟩ := info_parts info_u8
  have := run_make (P := Try.prog) w 25 5 i0 (.int .u8 0) Try.underlying25 hi hz0 .i64 .i64 256 256 (by decide) (by decide) (by rw [hz2]; decide) (by decide)
  rw [hz1] at this
  rw [made_zeros]
  exact this
set_option maxHeartbeats 3200000 in
theorem noughts_ok (w : World) : Calls Try.prog 42 #[] w fun r w' => r = .returned (.string (strOfNums zeros)) ∧ Below w.heap.size w w' := by
  obtain ⟨W1, hW1⟩ : ∃ W1, w.alloc (.cells (zeros.map (Value.int .u8)).toArray 5) = W1 := ⟨_, rfl⟩
  have hmk := run_zeros w
  have hcv := (Bys.alloc_new w zeros zeros_bd 5).conv 256
  have HB : Hid (Below w.heap.size w W1) := Lib.hid (by rw [← hW1]; exact (Below.refl _ _).alloc (Nat.le_refl _) _)
  rw [hW1] at hmk hcv
  rw [zeros_len] at hcv
  obtain ⟨Z, hZ⟩ : ∃ Z, strOfNums zeros = Z := ⟨_, rfl⟩
  rw [hZ] at hcv ⊢
  clear hW1 hZ
  go_enter Try.func42, Try.ntmps42
  go_wp2
  go_ret
  exact ⟨rfl, HB.out⟩
end Go.Proofs.Ytahjgbmhleiocaa
namespace Go.Proofs.Ytahjgbmhleiocaa
open Go.RowKit
set_option linter.unusedVariables false
set_option linter.unusedSimpArgs false

theorem idx_neg {M : List Pg} {a : Nat} : (idxZ M a 0 < 0) ↔ findP M a = none := by
  constructor
  · intro h
    cases hf : findP M a with
    | none => rfl
    | some p =>
      obtain ⟨i, _, he, _⟩ := idx_some 0 hf
      omega
  · intro h
    rw [idx_none 0 h]; decide
set_option maxHeartbeats 12800000 in
set_option maxRecDepth 100000 in
theorem there_ok {w : World} {B : Nat} {a : Option Addr} {n c : Nat} {M : List Pg} (h : RAt w B a n c M) (hB : B ≤ w.heap.size) (x sz : Nat) (x1 : x ≤ 18446744073709551615) (s0 : 0 < sz) (s1 : sz ≤ 262144) :
    Calls Try.prog 52 #[mv a n c, .int .u64 x, .int .u64 sz] w fun e w' => e = .returned (.bool (spanP M x sz).isSome) ∧ Below w.heap.size w w' := by
  have HH := Lib.hid h
  have HB := Lib.hid hB
  have HTOP : Hid (∀ L, spanP M x sz = some L → x + sz ≤ 4294967296) := Lib.hid (fun L hL => span_top h.ok hL s0)
  have HALL := Lib.hid (span_all (M := M) sz x)
  obtain ⟨Z, hZ⟩ : ∃ Z, (spanP M x sz).isSome = Z := ⟨_, rfl⟩
  rw [hZ]
  rw [hZ] at HALL
  have HZ := Lib.hid hZ
  have hb1 : Below w.heap.size w (w.alloc (.cells #[.slice a n c] 34)) := (Below.refl _ _).alloc (Nat.le_refl _) _
  have HB1 := Lib.hid hb1
  have BX := Lib.hid (Blk.new w #[.slice a n c] 34)
  unfold mv
  clear hZ h hB hb1
  by_cases hx : x ≤ 4294967296
  · have hxi : (x : Int) ≤ 4294967296 := by omega
    have hw1 : IntKind.u64.wrap (4294967296 - (x : Int)) = 4294967296 - (x : Int) := by
      show (4294967296 - (x : Int)) % 18446744073709551616 = _
      omega
    by_cases hs : sz ≤ 4294967296 - x
    · have hsi : (sz : Int) ≤ 4294967296 - (x : Int) := by omega
      obtain ⟨A, hA⟩ : ∃ A, x / 256 * 256 = A := ⟨_, rfl⟩
      have hq : IntKind.u64.wrap ((x : Int) / 256 * 256) = A := by
        show ((x : Int) / 256 * 256) % 18446744073709551616 = _
        omega
      have hw2 : IntKind.u64.wrap ((x : Int) + (sz : Int)) = (x : Int) + (sz : Int) := by
        show ((x : Int) + (sz : Int)) % 18446744073709551616 = _
        omega
      have HA := Lib.hid hA
      have HX := Lib.hid hx
      have HS := Lib.hid hs
      clear hA hx hs
      go_enter Try.func52, Try.ntmps52
      go_wp2
      go_loopw [7] (fun d wr => ∃ k : Nat, d = .int .u64 ((A : Int) + (k : Int) * 256) ∧ Hid (A + k * 256 ≤ x + sz + 255) ∧ Hid (∀ j, j < k → (findP M (A + j * 256)).isSome = true) ∧ Hid (Below (w.heap.size + 1) (w.alloc (.cells #[.slice a n c] 34)) wr)) (fun d _ => ((x : Int) + sz - intOf d).toNat)
      case atStart => exact ⟨0, by go_num, Lib.hid (by have := HA.out; omega), Lib.hid (fun j hj => absurd hj (by omega)), Lib.hid (Below.refl _ _)⟩
      case round =>
        obtain ⟨k, rfl, HAK, HJ, HBW⟩ := hrel
        have hbw : Below w.heap.size w wr := HB1.out.trans (HBW.out.mono (by omega))
        have c0 : wr.cell? ⟨w.heap.size, 0, none⟩ = some (.slice a n c) := ((BX.out).later (by simpa using HBW.out)).cell 0
        have HBW2 := Lib.hid hbw
        clear hbw
        by_cases hlt : A + k * 256 < x + sz
        · have hlti : (A : Int) + (k : Int) * 256 < (x : Int) + (sz : Int) := by omega
          have hab : A + k * 256 ≤ 4294967296 := by have := HX.out; have := HS.out; omega
          have hra : RAt wr B a n c M := HH.out.below (HBW2.out.mono HB.out)
          have hfi := rfind_ok hra (Nat.le_trans HB.out HBW2.out.size) (A + k * 256) (by omega)
          rw [show (A + k * 256) / 256 * 256 = A + k * 256 by have := HA.out; omega, show ((A + k * 256 : Nat) : Int) = (A : Int) + (k : Int) * 256 by omega] at hfi
          have hwd : IntKind.u64.wrap ((A : Int) + (k : Int) * 256 + 256) = (A : Int) + ((k + 1 : Nat) : Int) * 256 := by
            show ((A : Int) + (k : Int) * 256 + 256) % 18446744073709551616 = _
            omega
          have HLT := Lib.hid hlt
          have hnb : Hid (Below (w.heap.size + 1) (w.alloc (.cells #[.slice a n c] 34)) (wr.alloc (.cells #[.slice a n c] 34))) := Lib.hid (HBW.out.alloc (by have := HBW.out.size; simpa using this) _)
          obtain ⟨I, hI⟩ : ∃ I, idxZ M (A + k * 256) 0 = I := ⟨_, rfl⟩
          have hneg := idx_neg (M := M) (a := A + k * 256)
          rw [hI] at hfi hneg
          have HFI := Lib.hid hfi
          have HNG := Lib.hid hneg
          unfold mv at HFI
          clear hfi hneg hra hab hlt hI
          by_cases hi : I < 0
          · have HE : Hid (Z = false) := Lib.hid (by
              cases e : Z with
              | false => rfl
              | true =>
                have h2 := (HALL.out.1 e) (if k = 0 then 0 else A + k * 256 - x) (by have := HLT.out; have := HA.out; split <;> omega)
                rw [show (x + (if k = 0 then 0 else A + k * 256 - x)) / 256 * 256 = A + k * 256 by have := HA.out; split <;> omega, HNG.out.1 hi] at h2
                cases h2)
            go_wp2_with fail
            refine HFI.out.mono ?_
            rintro r w2 ⟨rfl, rfl⟩
            go_wp2
            go_ret
            exact ⟨by rw [HE.out]; rfl, HBW2.out.trans ((Below.refl _ _).alloc HBW2.out.size _)⟩
          · have HS1 : Hid ((findP M (A + k * 256)).isSome = true) := Lib.hid (by
              cases e : findP M (A + k * 256) with
              | none => exact absurd (HNG.out.2 e) hi
              | some p => rfl)
            go_wp2_with fail
            refine HFI.out.mono ?_
            rintro r w2 ⟨rfl, rfl⟩
            go_wp2
            go_roundw
            case rel => exact ⟨k + 1, by go_num, Lib.hid (by have := HLT.out; omega), Lib.hid (fun j hj => by
              by_cases e : j = k
              · rw [e]; exact HS1.out
              · exact HJ.out j (by omega)), hnb⟩
            case measure => have := HLT.out; simp [intOf]; omega
        · have hlti : ¬ (A : Int) + (k : Int) * 256 < (x : Int) + (sz : Int) := by omega
          have HE : Hid (Z = true) := Lib.hid (HALL.out.2 (fun i hi => by
            have := HJ.out (((x + i) / 256 * 256 - A) / 256) (by have := HA.out; omega)
            rw [show A + ((x + i) / 256 * 256 - A) / 256 * 256 = (x + i) / 256 * 256 by have := HA.out; omega] at this
            exact this))
          go_wp2
          go_ret
          exact ⟨by rw [HE.out]; rfl, HBW2.out⟩
    · have hsi : ¬ (sz : Int) ≤ 4294967296 - (x : Int) := by omega
      have HE : Hid (Z = false) := Lib.hid (by
        rw [← HZ.out]
        cases e : spanP M x sz with
        | none => rfl
        | some L => have := HTOP.out L e; omega)
      rw [HE.out]
      clear hs hx
      go_enter Try.func52, Try.ntmps52
      go_wp2
      go_ret
      exact ⟨rfl, HB1.out⟩
  · have hxi : ¬ (x : Int) ≤ 4294967296 := by omega
    have HE : Hid (Z = false) := Lib.hid (by
      rw [← HZ.out]
      cases e : spanP M x sz with
      | none => rfl
      | some L => have := HTOP.out L e; omega)
    rw [HE.out]
    clear hx
    go_enter Try.func52, Try.ntmps52
    go_wp2
    go_ret
    exact ⟨rfl, HB1.out⟩
end Go.Proofs.Ytahjgbmhleiocaa
namespace Go.Proofs.Ytahjgbmhleiocaa
open Go.RowKit
set_option linter.unusedVariables false
set_option linter.unusedSimpArgs false

theorem withP_so {M : List Pg} {p : Pg} (h : (M.map (·.a)).Pairwise (· < ·)) : ((withP M p).map (·.a)).Pairwise (· < ·) := by
  unfold withP
  cases hf : findP M p.a with
  | none => exact ins_so h hf
  | some q =>
    have e : (updP M p.a (fun _ => p)).map (·.a) = M.map (·.a) := by
      unfold updP
      rw [List.map_map]
      refine List.map_congr_left fun x _ => ?_
      show (if x.a = p.a then p else x).a = x.a
      by_cases e : x.a = p.a
      · rw [if_pos e, e]
      · rw [if_neg e]
    show ((updP M p.a (fun _ => p)).map (·.a)).Pairwise (· < ·)
    rw [e]; exact h
theorem withP_ok {M : List Pg} {p : Pg} (h : ∀ q ∈ M, q.Ok) (hp : p.Ok) : ∀ q ∈ withP M p, q.Ok := by
  unfold withP
  cases hf : findP M p.a with
  | none =>
    intro q hq
    rcases ins_mem.1 hq with rfl | hq
    · exact hp
    · exact h q hq
  | some z =>
    intro q hq
    have hq : q ∈ updP M p.a (fun _ => p) := hq
    unfold updP at hq
    obtain ⟨x, hx, rfl⟩ := List.mem_map.1 hq
    by_cases e : x.a = p.a
    · rw [if_pos e]; exact hp
    · rw [if_neg e]; exact h x hx
theorem info_rp : (Try.prog.info? 66).map (fun i => (i.zero, i.size, i.bytes)) = some (some (.agg #[.int .u64 0, .int .i64 0, .bool false, .string .empty, .int .u64 0, .string .empty]), 6, 64) := by kernel_rfl
theorem one_rp (s : Rp) : ∀ u ∈ [Value.int .u64 s.a, .int .i64 s.pr, .bool s.di, .string s.fi, .int .u64 s.of, .string s.b], u.oneCell' = true := by
  intro u hu
  simp only [List.mem_cons, List.not_mem_nil, or_false] at hu
  rcases hu with rfl | rfl | rfl | rfl | rfl | rfl <;> rfl
theorem rp_new (w : World) (cs : List Value) (t : TypeId) : ∀ j u, cs[j]? = some u → (w.alloc (.cells cs.toArray t)).cell? ((⟨w.heap.size, 0, none⟩ : Addr).add j) = some u := by
  intro j u hu
  rw [add_none, Nat.zero_add]
  rw [(Blk.new w cs.toArray t).cell j]
  simpa using hu
theorem own_heap {wq wr : World} {base s n : Nat} {e : TypeId} {v : Value} {xs : List Value} (hh : wq.heap = wr.heap) (h : wr.ownsRow base e s v n xs) : wq.ownsRow base e s v n xs := by
  unfold World.ownsRow at *
  rw [hh]; exact h
theorem wpList_app_pg {ops : Array Oper} {rest : List Oper} {o : Oper} {a : Act} {Q : Exit → Act → World → Prop} {wq wr : World} (hh : wq.heap = wr.heap) (hg : o.guard = none) (s x : Operand) (hop : o.op = Op.call { callee := Callee.builtin Builtin.append, args := #[s, x], argTypes := #[32, 32] }) {base : Nat} {v : Value} {out : List Pg} (z : Pg) (hs : a.eval s = v) (hx : a.eval x = .slice (some ⟨wq.heap.size, 0, none⟩) 1 1)
    (hl : out.length ≤ 100000) (h0 : wr.ownsRow base 66 6 v out.length (Rp.flat (rps out))) (hb0 : base ≤ wr.heap.size)
    (hK : ∀ v' W2, W2.ownsRow base 66 6 v' (out ++ [z]).length (Rp.flat (rps (out ++ [z]))) → Below base wq W2 → wpList Try.prog ops Q rest (a.put o.dst v') W2) :
    wpList Try.prog ops Q (o :: rest) a (wq.alloc (.cells #[.int .u64 z.a, .int .i64 z.prot, .bool z.dirty, .string z.file, .int .u64 z.off, .string (strOfNums z.b)] 66)) := by
  have h := own_heap hh h0
  have hb : base ≤ wq.heap.size := by rw [hh]; exact hb0
  obtain ⟨i0, hi, hz0, hz1, hz2⟩ := info_parts info_rp
  refine wpList_append_own _ hg s x 32 hop base 66 i0 _ 6 64 Try.underlying32 hi hz0 hz1 hz2 rfl (by decide) v out.length _ hs (World.ownsRow.alloc h _) ⟨wq.heap.size, 0, none⟩ 1 1 [.int .u64 z.a, .int .i64 z.prot, .bool z.dirty, .string z.file, .int .u64 z.off, .string (strOfNums z.b)] hx rfl (rp_new wq _ _) (one_rp (rp z)) (by unfold maxLen; omega) (by omega) (by simp; omega) fun v' W2 h1 h2 _ => hK v' W2 ?_ ?_
  · rw [rps_app, show rps [z] = [rp z] from rfl, Rp.flat_snoc, List.length_append]
    exact h1
  · exact ((Below.refl base wq).alloc hb _).grown h2 (by simp; omega) (fun q e => (h.lt q e).1)
theorem Rp.own_of {w : World} {base n : Nat} {a : Option Addr} {c : Nat} {M : List Pg} (hok : ∀ p ∈ M, p.Ok) (h : w.ownsRow base 66 6 (.slice a n c) M.length (Rp.flat (rps M))) (hn : n = M.length) : Rp.Sl w w.heap.size a n (rps M) := by
  subst hn
  exact Rp.Sl.own (fun s hs => by
    obtain ⟨p, hp, rfl⟩ := List.mem_map.1 hs
    exact rp_ok (hok p hp) _ _) h
def pv (p : Pg) : Value := .agg #[.int .u64 p.a, .int .i64 p.prot, .bool p.dirty, .string p.file, .int .u64 p.off, .string (strOfNums p.b)]
set_option maxHeartbeats 12800000 in
set_option maxRecDepth 100000 in
theorem rwith_ok {w : World} {B : Nat} {a : Option Addr} {n c : Nat} {M : List Pg} (h : RAt w B a n c M) (hB : B ≤ w.heap.size) {p : Pg} (hp : p.Ok) (hl : (withP M p).length ≤ 512) :
    Calls Try.prog 41 #[mv a n c, pv p] w fun e w' => ∃ a' n' c', e = .returned (mv a' n' c') ∧ RAt w' w'.heap.size a' n' c' (withP M p) ∧ Below w.heap.size w w' := by
  have HH := Lib.hid h
  have HB := Lib.hid hB
  have hlm := h.lm
  have hln := h.len
  have hn5 : n ≤ 512 := by omega
  have hnl : n = M.length := hln
  have HN := Lib.hid hnl
  have hwl := withG_len p false M
  have hwi := with_is (p := p) h.so
  obtain ⟨Z, hZ⟩ : ∃ Z, withP M p = Z := ⟨_, rfl⟩
  have HZ := Lib.hid hZ
  rw [hZ] at hl hwi ⊢
  rw [hwi] at hwl
  have HWI := Lib.hid hwi
  have HL := Lib.hid hl
  have HP := Lib.hid hp
  obtain ⟨w1, hw1⟩ : ∃ w1, ((w.alloc (.cells #[.slice a n c] 34)).alloc (.cells #[.int .u64 p.a, .int .i64 p.prot, .bool p.dirty, .string p.file, .int .u64 p.off, .string (strOfNums p.b)] 66)).alloc (.cells #[.slice none 0 0] 34) = w1 := ⟨_, rfl⟩
  have hz1 : w1.heap.size = w.heap.size + 3 := by rw [← hw1]; simp
  have HZ1 := Lib.hid hz1
  have B1 : Hid (Blk w1 w.heap.size #[.slice a n c] 34) := Lib.hid (by rw [← hw1]; exact ((Blk.new w _ _).alloc _).alloc _)
  have B2 : Hid (Blk w1 (w.heap.size + 1) #[.int .u64 p.a, .int .i64 p.prot, .bool p.dirty, .string p.file, .int .u64 p.off, .string (strOfNums p.b)] 66) := Lib.hid (by rw [← hw1]; have := (Blk.new (w.alloc (.cells #[.slice a n c] 34)) #[.int .u64 p.a, .int .i64 p.prot, .bool p.dirty, .string p.file, .int .u64 p.off, .string (strOfNums p.b)] 66).alloc (.cells #[.slice none 0 0] 34); simpa using this)
  have B3 : Hid (Blk w1 (w.heap.size + 2) #[.slice none 0 0] 34) := Lib.hid (by rw [← hw1]; have := Blk.new ((w.alloc (.cells #[.slice a n c] 34)).alloc (.cells #[.int .u64 p.a, .int .i64 p.prot, .bool p.dirty, .string p.file, .int .u64 p.off, .string (strOfNums p.b)] 66)) #[.slice none 0 0] 34; simpa using this)
  have hb01 : Below w.heap.size w w1 := by rw [← hw1]; exact (((Below.refl _ w).alloc (Nat.le_refl _) _).alloc (by simp) _).alloc (by simp; omega) _
  have HB01 := Lib.hid hb01
  have HH1 := Lib.hid (h.below (hb01.mono hB))
  unfold mv pv
  clear h hlm hln hZ hl hwi hp hz1 hb01 hB hnl hwl
  go_enter Try.func41, Try.ntmps41
  go_wp2
  try rw [hw1]
  clear hw1
  go_loopw [5, 6, 7] (fun l b i wr => ∃ (k : Nat) (put : Bool) (out : List Pg), k ≤ n ∧ i = .int .i64 k ∧ b = .bool put ∧ Hid (wr.ownsRow w1.heap.size 66 6 l out.length (Rp.flat (rps out))) ∧ Hid (out ++ withG p put (M.drop k) = Z) ∧ Hid (Below w1.heap.size w1 wr)) (fun _ _ i _ => n - (intOf i).toNat)
  case atStart => exact ⟨0, false, [], Nat.zero_le _, by go_num, rfl, Lib.hid (World.ownsRow_nil _ _ _ _), Lib.hid (by rw [List.drop_zero]; exact HWI.out), Lib.hid (Below.refl _ _)⟩
  case round =>
    obtain ⟨k, put, out, hk, rfl, rfl, HO, HG, HBW⟩ := hrel
    obtain ⟨la, lc, rfl⟩ := own_slp HO.out
    have hzl := HZ1.out
    have hb1 : wr.cell? ⟨w.heap.size, 0, none⟩ = some (.slice a n c) := (B1.out.later HBW.out).cell 0
    have hb2 := B2.out.later HBW.out
    have q0 : wr.cell? ⟨w.heap.size + 1, 0, none⟩ = some (.int .u64 p.a) := hb2.cell 0
    have q1 : wr.cell? ⟨w.heap.size + 1, 1, none⟩ = some (.int .i64 p.prot) := hb2.cell 1
    have q2 : wr.cell? ⟨w.heap.size + 1, 2, none⟩ = some (.bool p.dirty) := hb2.cell 2
    have q3 : wr.cell? ⟨w.heap.size + 1, 3, none⟩ = some (.string p.file) := hb2.cell 3
    have q4 : wr.cell? ⟨w.heap.size + 1, 4, none⟩ = some (.int .u64 p.off) := hb2.cell 4
    have q5 : wr.cell? ⟨w.heap.size + 1, 5, none⟩ = some (.string (strOfNums p.b)) := hb2.cell 5
    clear hb2 hzl
    by_cases hlt : k < n
    · have hlti : (k : Int) < n := by omega
      obtain ⟨b, off, rfl, hbB, hat⟩ := (HH1.out.below (HBW.out.mono (by have := HZ1.out; have := HB.out; omega))).at hlt
      have hd := withG_drop p put (M := M) (i := k) (by rw [← HN.out]; exact hlt)
      obtain ⟨q, hq⟩ : ∃ q, M.getD k pg0 = q := ⟨_, rfl⟩
      rw [hq] at hat hd
      have c0 : wr.cell? ⟨b, off + k * 6, none⟩ = some (.int .u64 q.a) := hat.c0
      have HAT := Lib.hid hat
      have HQ : Hid (q.Ok) := Lib.hid (by rw [← hq]; exact HH.out.ok _ (pgs_mem (by rw [← HN.out]; exact hlt)))
      have HLO : Hid (out.length ≤ 512) := Lib.hid (by have h1 := congrArg List.length HG.out; rw [List.length_append] at h1; have := HL.out; omega)
      have HZB : Hid (w1.heap.size ≤ wr.heap.size) := Lib.hid HBW.out.size
      have HCL : Hid (∀ wx : World, Below w1.heap.size wr wx → wx.cell? ⟨w.heap.size, 0, none⟩ = some (.slice (some ⟨b, off, none⟩) n c) ∧ wx.cell? ⟨w.heap.size + 1, 0, none⟩ = some (.int .u64 p.a) ∧ wx.cell? ⟨w.heap.size + 1, 1, none⟩ = some (.int .i64 p.prot) ∧ wx.cell? ⟨w.heap.size + 1, 2, none⟩ = some (.bool p.dirty) ∧ wx.cell? ⟨w.heap.size + 1, 3, none⟩ = some (.string p.file) ∧ wx.cell? ⟨w.heap.size + 1, 4, none⟩ = some (.int .u64 p.off) ∧ wx.cell? ⟨w.heap.size + 1, 5, none⟩ = some (.string (strOfNums p.b)) ∧
          wx.cell? ⟨b, off + k * 6, none⟩ = some (.int .u64 q.a) ∧ wx.cell? ⟨b, off + k * 6 + 1, none⟩ = some (.int .i64 q.prot) ∧ wx.cell? ⟨b, off + k * 6 + 2, none⟩ = some (.bool q.dirty) ∧ wx.cell? ⟨b, off + k * 6 + 3, none⟩ = some (.string q.file) ∧ wx.cell? ⟨b, off + k * 6 + 4, none⟩ = some (.int .u64 q.off) ∧ wx.cell? ⟨b, off + k * 6 + 5, none⟩ = some (.string (strOfNums q.b))) := Lib.hid (fun wx hb => by
        have hz := HZ1.out
        have hB := HB.out
        have hb2 := B2.out.later (HBW.out.trans hb)
        have ha2 := HAT.out.below hb (by omega)
        exact ⟨(B1.out.later (HBW.out.trans hb)).cell 0, hb2.cell 0, hb2.cell 1, hb2.cell 2, hb2.cell 3, hb2.cell 4, hb2.cell 5, ha2.c0, ha2.c1, ha2.c2, ha2.c3, ha2.c4, ha2.c5⟩)
      clear hb1 q0 q1 q2 q3 q4 q5 c0 hat
      obtain ⟨hb1, q0, q1, q2, q3, q4, q5, c0, c1, c2, c3, c4, c5⟩ := HCL.out wr (Below.refl _ _)
      clear q1 q2 q3 q4 q5 c1 c2 c3 c4 c5
      have HD := Lib.hid hd
      have HLTN := Lib.hid hlt
      clear hd hq
      cases put with
      | true =>
        by_cases he : q.a = p.a
        · have heb : ((q.a : Int) != (p.a : Int)) = false := by rw [he]; simp
          have HE := Lib.hid he
          clear he
          have HGN : Hid (out ++ withG p true (M.drop (k + 1)) = Z) := Lib.hid (by
            rw [← HG.out, HD.out]
            simp [HE.out])
          clear HG HD
          obtain ⟨-, -, z1, z2, z3, z4, z5, -, z6, z7, z8, z9, z0⟩ := HCL.out wr (Below.refl _ _)
          go_wp2
          go_quiet (fail)
          go_wp2
          go_quiet (fail)
          go_wp2
          go_roundw
          case rel => exact ⟨k + 1, true, out, HLTN.out, by go_num, rfl, HO, HGN, Lib.hid (below_drewN HBW.out _)⟩
          case measure => have := HLTN.out; simp [intOf]; omega
        · have heb : ((q.a : Int) != (p.a : Int)) = true := by simp; omega
          have HE := Lib.hid he
          clear he
          have HGN : Hid ((out ++ [q]) ++ withG p true (M.drop (k + 1)) = Z) := Lib.hid (by
            rw [← HG.out, HD.out]
            simp [HE.out])
          clear HG HD
          obtain ⟨-, -, z1, z2, z3, z4, z5, -, z6, z7, z8, z9, z0⟩ := HCL.out wr (Below.refl _ _)
          go_wp2
          go_quiet (fail)
          go_wp2_with (first | (at_builtin; refine wpList_app_pg (wr := wr) (base := w1.heap.size) (out := out) (by rfl) rfl (.tmp 41) (.tmp 47) rfl q rfl rfl (by have := HLO.out; omega) HO.out HZB.out ?_; intro v2 W3 hown2 hb2; obtain ⟨va2, vc2, rfl⟩ := own_slp hown2; have HO2 : Hid (W3.ownsRow w1.heap.size 66 6 (.slice va2 (out.length + 1) vc2) (out ++ [q]).length (Rp.flat (rps (out ++ [q])))) := Lib.hid (by rw [List.length_append] at hown2 ⊢; exact hown2); have HB2 : Hid (Below w1.heap.size wr W3) := Lib.hid ⟨hb2.os, hb2.tape, hb2.output, hb2.size, hb2.block⟩; clear hown2 hb2))
          go_quiet (fail)
          go_wp2_with (first | (at_builtin; refine wpList_app_pg (wr := wr) (base := w1.heap.size) (out := out) (by rfl) rfl (.tmp 41) (.tmp 47) rfl q rfl rfl (by have := HLO.out; omega) HO.out HZB.out ?_; intro v2 W3 hown2 hb2; obtain ⟨va2, vc2, rfl⟩ := own_slp hown2; have HO2 : Hid (W3.ownsRow w1.heap.size 66 6 (.slice va2 (out.length + 1) vc2) (out ++ [q]).length (Rp.flat (rps (out ++ [q])))) := Lib.hid (by rw [List.length_append] at hown2 ⊢; exact hown2); have HB2 : Hid (Below w1.heap.size wr W3) := Lib.hid ⟨hb2.os, hb2.tape, hb2.output, hb2.size, hb2.block⟩; clear hown2 hb2))
          go_roundw
          case rel => exact ⟨k + 1, true, (out ++ [q]), HLTN.out, by go_num, rfl, HO2, HGN, Lib.hid (HBW.out.trans HB2.out)⟩
          case measure => have := HLTN.out; simp [intOf]; omega
      | false =>
        by_cases hle : p.a ≤ q.a
        · have hli : (p.a : Int) ≤ (q.a : Int) := by omega
          have HLE := Lib.hid hle
          clear hle
          by_cases he : q.a = p.a
          · have heb : ((q.a : Int) != (p.a : Int)) = false := by rw [he]; simp
            have HE := Lib.hid he
            clear he
            have HGN : Hid ((out ++ [p]) ++ withG p true (M.drop (k + 1)) = Z) := Lib.hid (by
              rw [← HG.out, HD.out]
              simp [HE.out, HLE.out])
            clear HG HD
            obtain ⟨-, -, z1, z2, z3, z4, z5, -, z6, z7, z8, z9, z0⟩ := HCL.out wr (Below.refl _ _)
            go_wp2
            go_quiet (fail)
            go_wp2_with (first | (at_builtin; refine wpList_app_pg (wr := wr) (base := w1.heap.size) (out := out) (by rfl) rfl (.tmp 28) (.tmp 30) rfl p rfl rfl (by have := HLO.out; omega) HO.out HZB.out ?_; intro v1 W2 hown1 hb1; obtain ⟨va1, vc1, rfl⟩ := own_slp hown1; have HO1 : Hid (W2.ownsRow w1.heap.size 66 6 (.slice va1 (out.length + 1) vc1) (out ++ [p]).length (Rp.flat (rps (out ++ [p])))) := Lib.hid (by rw [List.length_append] at hown1 ⊢; exact hown1); have HB1 : Hid (Below w1.heap.size wr W2) := Lib.hid ⟨hb1.os, hb1.tape, hb1.output, hb1.size, hb1.block⟩; have HZ2 : Hid (w1.heap.size ≤ W2.heap.size) := Lib.hid (Nat.le_trans HZB.out HB1.out.size); obtain ⟨x1, x2, -, -, -, -, -, x3, x4, x5, x6, x7, x8⟩ := HCL.out W2 HB1.out; clear hown1 hb1))
            go_quiet (fail)
            go_wp2_with (first | (at_builtin; refine wpList_app_pg (wr := wr) (base := w1.heap.size) (out := out) (by rfl) rfl (.tmp 28) (.tmp 30) rfl p rfl rfl (by have := HLO.out; omega) HO.out HZB.out ?_; intro v1 W2 hown1 hb1; obtain ⟨va1, vc1, rfl⟩ := own_slp hown1; have HO1 : Hid (W2.ownsRow w1.heap.size 66 6 (.slice va1 (out.length + 1) vc1) (out ++ [p]).length (Rp.flat (rps (out ++ [p])))) := Lib.hid (by rw [List.length_append] at hown1 ⊢; exact hown1); have HB1 : Hid (Below w1.heap.size wr W2) := Lib.hid ⟨hb1.os, hb1.tape, hb1.output, hb1.size, hb1.block⟩; have HZ2 : Hid (w1.heap.size ≤ W2.heap.size) := Lib.hid (Nat.le_trans HZB.out HB1.out.size); obtain ⟨x1, x2, -, -, -, -, -, x3, x4, x5, x6, x7, x8⟩ := HCL.out W2 HB1.out; clear hown1 hb1))
            go_roundw
            case rel => exact ⟨k + 1, true, (out ++ [p]), HLTN.out, by go_num, rfl, HO1, HGN, Lib.hid (below_drewN (HBW.out.trans HB1.out) _)⟩
            case measure => have := HLTN.out; simp [intOf]; omega
          · have heb : ((q.a : Int) != (p.a : Int)) = true := by simp; omega
            have HE := Lib.hid he
            clear he
            have HGN : Hid (((out ++ [p]) ++ [q]) ++ withG p true (M.drop (k + 1)) = Z) := Lib.hid (by
              rw [← HG.out, HD.out]
              simp [HE.out, HLE.out])
            clear HG HD
            obtain ⟨-, -, z1, z2, z3, z4, z5, -, z6, z7, z8, z9, z0⟩ := HCL.out wr (Below.refl _ _)
            go_wp2
            go_quiet (fail)
            go_wp2_with (first | (at_builtin; refine wpList_app_pg (wr := wr) (base := w1.heap.size) (out := out) (by rfl) rfl (.tmp 28) (.tmp 30) rfl p rfl rfl (by have := HLO.out; omega) HO.out HZB.out ?_; intro v1 W2 hown1 hb1; obtain ⟨va1, vc1, rfl⟩ := own_slp hown1; have HO1 : Hid (W2.ownsRow w1.heap.size 66 6 (.slice va1 (out.length + 1) vc1) (out ++ [p]).length (Rp.flat (rps (out ++ [p])))) := Lib.hid (by rw [List.length_append] at hown1 ⊢; exact hown1); have HB1 : Hid (Below w1.heap.size wr W2) := Lib.hid ⟨hb1.os, hb1.tape, hb1.output, hb1.size, hb1.block⟩; have HZ2 : Hid (w1.heap.size ≤ W2.heap.size) := Lib.hid (Nat.le_trans HZB.out HB1.out.size); obtain ⟨x1, x2, -, -, -, -, -, x3, x4, x5, x6, x7, x8⟩ := HCL.out W2 HB1.out; clear hown1 hb1) | (at_builtin; refine wpList_app_pg (wr := W2) (base := w1.heap.size) (out := out ++ [p]) (by rfl) rfl (.tmp 41) (.tmp 47) rfl q rfl rfl (by rw [List.length_append]; have := HLO.out; simp; omega) HO1.out HZ2.out ?_; intro v2 W3 hown2 hb2; obtain ⟨va2, vc2, rfl⟩ := own_slp hown2; have HO2 : Hid (W3.ownsRow w1.heap.size 66 6 (.slice va2 (out.length + 1 + 1) vc2) (out ++ [p] ++ [q]).length (Rp.flat (rps (out ++ [p] ++ [q])))) := Lib.hid (by simp only [List.length_append, List.length_cons, List.length_nil] at hown2 ⊢; exact hown2); have HB2 : Hid (Below w1.heap.size wr W3) := Lib.hid (HB1.out.trans ⟨hb2.os, hb2.tape, hb2.output, hb2.size, hb2.block⟩); clear hown2 hb2))
            go_quiet (fail)
            go_wp2_with (first | (at_builtin; refine wpList_app_pg (wr := wr) (base := w1.heap.size) (out := out) (by rfl) rfl (.tmp 28) (.tmp 30) rfl p rfl rfl (by have := HLO.out; omega) HO.out HZB.out ?_; intro v1 W2 hown1 hb1; obtain ⟨va1, vc1, rfl⟩ := own_slp hown1; have HO1 : Hid (W2.ownsRow w1.heap.size 66 6 (.slice va1 (out.length + 1) vc1) (out ++ [p]).length (Rp.flat (rps (out ++ [p])))) := Lib.hid (by rw [List.length_append] at hown1 ⊢; exact hown1); have HB1 : Hid (Below w1.heap.size wr W2) := Lib.hid ⟨hb1.os, hb1.tape, hb1.output, hb1.size, hb1.block⟩; have HZ2 : Hid (w1.heap.size ≤ W2.heap.size) := Lib.hid (Nat.le_trans HZB.out HB1.out.size); obtain ⟨x1, x2, -, -, -, -, -, x3, x4, x5, x6, x7, x8⟩ := HCL.out W2 HB1.out; clear hown1 hb1) | (at_builtin; refine wpList_app_pg (wr := W2) (base := w1.heap.size) (out := out ++ [p]) (by rfl) rfl (.tmp 41) (.tmp 47) rfl q rfl rfl (by rw [List.length_append]; have := HLO.out; simp; omega) HO1.out HZ2.out ?_; intro v2 W3 hown2 hb2; obtain ⟨va2, vc2, rfl⟩ := own_slp hown2; have HO2 : Hid (W3.ownsRow w1.heap.size 66 6 (.slice va2 (out.length + 1 + 1) vc2) (out ++ [p] ++ [q]).length (Rp.flat (rps (out ++ [p] ++ [q])))) := Lib.hid (by simp only [List.length_append, List.length_cons, List.length_nil] at hown2 ⊢; exact hown2); have HB2 : Hid (Below w1.heap.size wr W3) := Lib.hid (HB1.out.trans ⟨hb2.os, hb2.tape, hb2.output, hb2.size, hb2.block⟩); clear hown2 hb2))
            go_roundw
            case rel => exact ⟨k + 1, true, ((out ++ [p]) ++ [q]), HLTN.out, by go_num, rfl, HO2, HGN, Lib.hid (HBW.out.trans HB2.out)⟩
            case measure => have := HLTN.out; simp [intOf]; omega
        · have hli : ¬ (p.a : Int) ≤ (q.a : Int) := by omega
          have HLE := Lib.hid hle
          clear hle
          by_cases he : q.a = p.a
          · have heb : ((q.a : Int) != (p.a : Int)) = false := by rw [he]; simp
            have HE := Lib.hid he
            clear he
            have HGN : Hid (out ++ withG p false (M.drop (k + 1)) = Z) := Lib.hid (by
              exact absurd (Nat.le_of_eq HE.out.symm) HLE.out)
            clear HG HD
            obtain ⟨-, -, z1, z2, z3, z4, z5, -, z6, z7, z8, z9, z0⟩ := HCL.out wr (Below.refl _ _)
            go_wp2
            go_quiet (fail)
            go_wp2
            go_quiet (fail)
            go_wp2
            go_roundw
            case rel => exact ⟨k + 1, false, out, HLTN.out, by go_num, rfl, HO, HGN, Lib.hid (below_drewN HBW.out _)⟩
            case measure => have := HLTN.out; simp [intOf]; omega
          · have heb : ((q.a : Int) != (p.a : Int)) = true := by simp; omega
            have HE := Lib.hid he
            clear he
            have HGN : Hid ((out ++ [q]) ++ withG p false (M.drop (k + 1)) = Z) := Lib.hid (by
              rw [← HG.out, HD.out]
              simp [HE.out, HLE.out])
            clear HG HD
            obtain ⟨-, -, z1, z2, z3, z4, z5, -, z6, z7, z8, z9, z0⟩ := HCL.out wr (Below.refl _ _)
            go_wp2
            go_quiet (fail)
            go_wp2_with (first | (at_builtin; refine wpList_app_pg (wr := wr) (base := w1.heap.size) (out := out) (by rfl) rfl (.tmp 41) (.tmp 47) rfl q rfl rfl (by have := HLO.out; omega) HO.out HZB.out ?_; intro v2 W3 hown2 hb2; obtain ⟨va2, vc2, rfl⟩ := own_slp hown2; have HO2 : Hid (W3.ownsRow w1.heap.size 66 6 (.slice va2 (out.length + 1) vc2) (out ++ [q]).length (Rp.flat (rps (out ++ [q])))) := Lib.hid (by rw [List.length_append] at hown2 ⊢; exact hown2); have HB2 : Hid (Below w1.heap.size wr W3) := Lib.hid ⟨hb2.os, hb2.tape, hb2.output, hb2.size, hb2.block⟩; clear hown2 hb2))
            go_quiet (fail)
            go_wp2_with (first | (at_builtin; refine wpList_app_pg (wr := wr) (base := w1.heap.size) (out := out) (by rfl) rfl (.tmp 41) (.tmp 47) rfl q rfl rfl (by have := HLO.out; omega) HO.out HZB.out ?_; intro v2 W3 hown2 hb2; obtain ⟨va2, vc2, rfl⟩ := own_slp hown2; have HO2 : Hid (W3.ownsRow w1.heap.size 66 6 (.slice va2 (out.length + 1) vc2) (out ++ [q]).length (Rp.flat (rps (out ++ [q])))) := Lib.hid (by rw [List.length_append] at hown2 ⊢; exact hown2); have HB2 : Hid (Below w1.heap.size wr W3) := Lib.hid ⟨hb2.os, hb2.tape, hb2.output, hb2.size, hb2.block⟩; clear hown2 hb2))
            go_roundw
            case rel => exact ⟨k + 1, false, (out ++ [q]), HLTN.out, by go_num, rfl, HO2, HGN, Lib.hid (HBW.out.trans HB2.out)⟩
            case measure => have := HLTN.out; simp [intOf]; omega
    · have hlti : ¬ (k : Int) < n := by omega
      obtain rfl : k = n := by omega
      have hg := HG.out
      rw [List.drop_eq_nil_of_le (by rw [← HN.out]; exact Nat.le_refl _)] at hg
      have HW2 : Hid (w.heap.size + 1 + 1 < w1.heap.size) := Lib.hid (by rw [HZ1.out]; omega)
      have HRET : Hid (∀ (wx : World) (va : Option Addr) (vc : Nat), wx.ownsRow w1.heap.size 66 6 (.slice va Z.length vc) Z.length (Rp.flat (rps Z)) → Below w1.heap.size w1 wx → RAt (wx.setCell ⟨w.heap.size + 1 + 1, 0, none⟩ (.slice va Z.length vc)) (wx.setCell ⟨w.heap.size + 1 + 1, 0, none⟩ (.slice va Z.length vc)).heap.size va Z.length vc Z ∧ Below w.heap.size w (wx.setCell ⟨w.heap.size + 1 + 1, 0, none⟩ (.slice va Z.length vc))) := Lib.hid (fun wx va vc ho hb => by
        have hz := HZ1.out
        obtain ⟨_, _, e0, l1, l2⟩ := Rp.own_slice ho
        injection e0 with e1 _ e3
        subst e1
        subst e3
        have hsg : wx.grownBy (wx.setCell ⟨w.heap.size + 1 + 1, 0, none⟩ (.slice va Z.length vc)) (some (w.heap.size + 1 + 1)) := grown_set _ _ _ _
        have ho2 : (wx.setCell ⟨w.heap.size + 1 + 1, 0, none⟩ (.slice va Z.length vc)).ownsRow w1.heap.size 66 6 (.slice va Z.length vc) Z.length (Rp.flat (rps Z)) := ho.kept hsg (.inr (fun e => by
          have := (ho.lt _ e).1
          omega))
        have hzo : ∀ p' ∈ Z, p'.Ok := by rw [← HZ.out]; exact withP_ok HH.out.ok HP.out
        refine ⟨⟨Rp.own_of hzo ho2 rfl, l1, l2, by rw [← HZ.out]; exact withP_so HH.out.so, hzo, HL.out⟩, ?_⟩
        exact (HB01.out.trans (hb.mono HB01.out.size)).setCell (p := ⟨w.heap.size + 1 + 1, 0, none⟩) (by show w.heap.size ≤ w.heap.size + 1 + 1; omega) _)
      cases put with
      | true =>
        have hg : out ++ [] = Z := hg
        rw [List.append_nil] at hg
        subst hg
        have q9 : wr.cell? ⟨w.heap.size + 1 + 1, 0, none⟩ = some (.slice none 0 0) := (B3.out.later HBW.out).cell 0
        have f9 : wr.frozen? ⟨w.heap.size + 1 + 1, 0, none⟩ = false := (B3.out.later HBW.out).frozen 0
        have ee : (wr.setCell ⟨w.heap.size + 1 + 1, 0, none⟩ (.slice la out.length lc)).cell? ⟨w.heap.size + 1 + 1, 0, none⟩ = some (.slice la out.length lc) := World.cell?_setCell_same' _ _ _ (by rw [q9]; rfl)
        go_wp2
        refine bodyPost_ret (v := .agg #[.slice la out.length lc]) (by simp [results, Try.results41, go_sem, ee]) rfl ?_
        exact ⟨la, out.length, lc, rfl, HRET.out wr la lc HO.out HBW.out⟩
      | false =>
        have hg : out ++ [p] = Z := hg
        have hlz : Z.length = out.length + 1 := by rw [← hg, List.length_append]; rfl
        have HLZ := Lib.hid hlz
        have HGG := Lib.hid hg
        have HLO : Hid (out.length ≤ 512) := Lib.hid (by have := HL.out; omega)
        have HZB : Hid (w1.heap.size ≤ wr.heap.size) := Lib.hid HBW.out.size
        clear hg hlz
        go_wp2_with (at_builtin; refine wpList_app_pg (wr := wr) (base := w1.heap.size) (out := out) (by rfl) rfl (.tmp 51) (.tmp 53) rfl p rfl rfl (by have := HLO.out; omega) HO.out HZB.out ?_; intro v1 W2 hown1 hb1; obtain ⟨va1, vc1, rfl⟩ := own_slp hown1; have HO1 : Hid (W2.ownsRow w1.heap.size 66 6 (.slice va1 Z.length vc1) Z.length (Rp.flat (rps Z))) := Lib.hid (by rw [HGG.out] at hown1; exact hown1); have HB1 : Hid (Below w1.heap.size w1 W2) := Lib.hid (HBW.out.trans ⟨hb1.os, hb1.tape, hb1.output, hb1.size, hb1.block⟩); have q9 : W2.cell? ⟨w.heap.size + 1 + 1, 0, none⟩ = some (.slice none 0 0) := (B3.out.later HB1.out).cell 0; have f9 : W2.frozen? ⟨w.heap.size + 1 + 1, 0, none⟩ = false := (B3.out.later HB1.out).frozen 0; have ee : (W2.setCell ⟨w.heap.size + 1 + 1, 0, none⟩ (.slice va1 (out.length + 1) vc1)).cell? ⟨w.heap.size + 1 + 1, 0, none⟩ = some (.slice va1 (out.length + 1) vc1) := World.cell?_setCell_same' _ _ _ (by rw [q9]; rfl); clear hown1 hb1)
        refine bodyPost_ret (v := .agg #[.slice va1 (out.length + 1) vc1]) (by simp [results, Try.results41, go_sem, ee]) rfl ?_
        have hr := HRET.out W2 va1 vc1 HO1.out HB1.out
        rw [HLZ.out] at hr
        exact ⟨va1, out.length + 1, vc1, rfl, hr⟩
end Go.Proofs.Ytahjgbmhleiocaa
namespace Go.Proofs.Ytahjgbmhleiocaa
open Go.RowKit
set_option linter.unusedVariables false
set_option linter.unusedSimpArgs false

theorem meet_is {p : Pg} (hp : p.Ok) {x n : Nat} (h : rangeP x n = true) : meetB p.a 256 x n = (decide (x ≤ p.a) && decide (p.a < x + n)) := by
  unfold rangeP at h
  simp only [Bool.and_eq_true, decide_eq_true_eq] at h
  have h1 := hp.al
  unfold meetB
  rw [if_neg (by omega)]
  by_cases e : (p.a : Int) ≤ x
  · rw [if_pos e]
    by_cases e2 : x ≤ p.a
    · simp only [e2, decide_true, Bool.true_and]
      rw [decide_eq_decide]; omega
    · simp only [e2, decide_false, Bool.false_and]
      rw [decide_eq_false_iff_not]; omega
  · rw [if_neg e]
    simp only [show x ≤ p.a by omega, decide_true, Bool.true_and]
    rw [decide_eq_decide]; omega
theorem addN_all {prot : Int} {f : ByteArray} {off : Int} {M : List Pg} {x n : Nat} (hr : rangeP x n = true) (hp : protP prot = true) (hf : f.size ≤ maxLen) (hM : ∀ p ∈ M, p.Ok) (hov : overP M x n = false) : ∀ k, k ≤ n / 256 → (∀ p ∈ addN prot f off M x k, p.Ok) ∧ ((M.map (·.a)).Pairwise (· < ·) → ((addN prot f off M x k).map (·.a)).Pairwise (· < ·))
  | 0, _ => ⟨hM, id⟩
  | k + 1, hk => by
    obtain ⟨h1, h2⟩ := addN_all hr hp hf hM hov k (by omega)
    have hr2 := hr
    unfold rangeP at hr2
    simp only [Bool.and_eq_true, decide_eq_true_eq] at hr2
    have hn : findP (addN prot f off M x k) (newPg prot f off x k).a = none := addN_none (fun j hj => over_no hov hM (by omega) (by omega) (by omega))
    refine ⟨fun p hp' => ?_, fun hs => ?_⟩
    · unfold addN at hp'
      rcases ins_mem.1 hp' with rfl | hp'
      · exact newPg_ok hr hp hf (by omega)
      · exact h1 p hp'
    · unfold addN
      exact ins_so (h2 hs) hn
theorem addN_with {prot : Int} {f : ByteArray} {off : Int} {M : List Pg} {x n : Nat} (hr : rangeP x n = true) (hM : ∀ p ∈ M, p.Ok) (hov : overP M x n = false) {k : Nat} (hk : k < n / 256) : withP (addN prot f off M x k) (newPg prot f off x k) = addN prot f off M x (k + 1) := by
  have hr2 := hr
  unfold rangeP at hr2
  simp only [Bool.and_eq_true, decide_eq_true_eq] at hr2
  have hn : findP (addN prot f off M x k) (newPg prot f off x k).a = none := addN_none (fun j hj => over_no hov hM (by omega) (by omega) (by omega))
  unfold withP
  rw [hn]; rfl
theorem RAt.setBox {w : World} {B : Nat} {a : Option Addr} {n c : Nat} {M : List Pg} (h : RAt w B a n c M) {g : Nat} {va : Option Addr} {vn vc : Nat} {t : TypeId} (hb : Blk w g #[.slice va vn vc] t) (u : Value) : RAt (w.setCell ⟨g, 0, none⟩ u) B a n c M := by
  refine ⟨⟨h.sl.hl, fun s hs => ?_, fun hp => ?_⟩, h.le, h.mx, h.so, h.ok, h.lm⟩
  · have := h.sl.hok s hs
    exact ⟨this.a, this.pr, this.di, this.fi, this.of, this.b⟩
  · obtain ⟨b, off, e, hB, hc⟩ := h.sl.hc hp
    have hne : b ≠ g := fun eb => by
      have h0 := (hc 0 hp).c0
      rw [eb, hb.cell (off + 0 * 6)] at h0
      cases off with
      | zero => simp at h0
      | succ k => simp at h0
    refine ⟨b, off, e, hB, fun i hi => ?_⟩
    have hx : ∀ j, (w.setCell ⟨g, 0, none⟩ u).cell? ⟨b, j, none⟩ = w.cell? ⟨b, j, none⟩ := fun j => World.cell?_of_block (w := w) (Below.heap_setCell _ _ _ _ (by exact hne))
    have ha := hc i hi
    exact ⟨(hx _).trans ha.c0, (hx _).trans ha.c1, (hx _).trans ha.c2, (hx _).trans ha.c3, (hx _).trans ha.c4, (hx _).trans ha.c5⟩
set_option maxHeartbeats 12800000 in
set_option maxRecDepth 100000 in
theorem rmap_ok {w : World} {B : Nat} {a : Option Addr} {n c : Nat} {M : List Pg} (h : RAt w B a n c M) (hB : B ≤ w.heap.size) (x sz : Nat) (prot : Int) (f : ByteArray) (off : Int) (x1 : x ≤ 18446744073709551615) (s1 : sz ≤ 18446744073709551615) (hf : f.size ≤ maxLen) (o0 : 0 ≤ off) (o1 : off ≤ 18446744073709551615) :
    Calls Try.prog 22 #[mv a n c, .int .u64 x, .int .u64 sz, .int .i64 prot, .string f, .int .u64 off] w fun e w' => ∃ a' n' c', e = .returned (.tuple #[mv a' n' c', .int .i64 (mapR M x sz prot f off).2]) ∧ RAt w' w'.heap.size a' n' c' (mapR M x sz prot f off).1 ∧ Below w.heap.size w w' := by
  have HH := Lib.hid h
  have HB := Lib.hid hB
  have hlm := h.lm
  have hn5 : n ≤ 512 := by have := h.len; omega
  have HN := Lib.hid h.len
  obtain ⟨w1, hw1⟩ : ∃ w1, (w.alloc (.cells #[.slice a n c] 34)).alloc (.cells #[.slice none 0 0] 34) = w1 := ⟨_, rfl⟩
  have HZ1 : Hid (w1.heap.size = w.heap.size + 2) := Lib.hid (by rw [← hw1]; simp)
  have B1 : Hid (Blk w1 w.heap.size #[.slice a n c] 34) := Lib.hid (by rw [← hw1]; exact (Blk.new w _ _).alloc _)
  have B2 : Hid (Blk w1 (w.heap.size + 1) #[.slice none 0 0] 34) := Lib.hid (by rw [← hw1]; have := Blk.new (w.alloc (.cells #[.slice a n c] 34)) #[.slice none 0 0] 34; simpa using this)
  have HB01 : Hid (Below w.heap.size w w1) := Lib.hid (by rw [← hw1]; exact ((Below.refl _ w).alloc (Nat.le_refl _) _).alloc (by simp) _)
  have HM := Lib.hid (may_ok w1 x sz prot (by omega) (by omega) (by omega) (by omega))
  have HRT : Hid (∀ (wx : World) (a' : Option Addr) (n' c' : Nat) (N : List Pg), RAt wx wx.heap.size a' n' c' N → Below w.heap.size w wx → Blk wx (w.heap.size + 1) #[.slice none 0 0] 34 → RAt (wx.setCell ⟨w.heap.size + 1, 0, none⟩ (.slice a' n' c')) (wx.setCell ⟨w.heap.size + 1, 0, none⟩ (.slice a' n' c')).heap.size a' n' c' N ∧ Below w.heap.size w (wx.setCell ⟨w.heap.size + 1, 0, none⟩ (.slice a' n' c')) ∧ (wx.setCell ⟨w.heap.size + 1, 0, none⟩ (.slice a' n' c')).cell? ⟨w.heap.size + 1, 0, none⟩ = some (.slice a' n' c')) := Lib.hid (fun wx a' n' c' N hr hb hk => by
    refine ⟨?_, hb.setCell (p := ⟨w.heap.size + 1, 0, none⟩) (by show w.heap.size ≤ w.heap.size + 1; omega) _, World.cell?_setCell_same' _ _ _ (by rw [hk.cell 0]; rfl)⟩
    have := hr.setBox hk (.slice a' n' c')
    simpa using this)
  unfold mv
  unfold mapR
  have hrange : mayP x sz prot = (rangeP x sz && protP prot) := rfl
  rw [hrange] at HM
  clear h hB hrange hlm
  cases hr : (rangeP x sz && protP prot) with
  | false =>
    rw [hr] at HM
    simp only [Bool.false_eq_true, if_false]
    clear hr
    have hr1 := HH.out.below (HB01.out.mono HB.out)
    have hx := HRT.out w1 a n c M (hr1.more (Nat.le_trans HB.out HB01.out.size)) HB01.out B2.out
    have HX := Lib.hid hx
    have e2 := hx.2.2
    have c1 : w1.cell? ⟨w.heap.size, 0, none⟩ = some (.slice a n c) := B1.out.cell 0
    have c2 : w1.cell? ⟨w.heap.size + 1, 0, none⟩ = some (.slice none 0 0) := B2.out.cell 0
    have f2 : w1.frozen? ⟨w.heap.size + 1, 0, none⟩ = false := B2.out.frozen 0
    clear hx hr1
    go_enter Try.func22, Try.ntmps22
    go_wp2_with fail
    refine HM.out.mono ?_
    rintro r0 w0 ⟨rfl, rfl⟩
    clear hw1
    go_wp2
    refine bodyPost_ret (v := .tuple #[.agg #[.slice a n c], .int .i64 1]) (by simp [results, Try.results22, go_sem, e2]) rfl ?_
    exact ⟨a, n, c, rfl, HX.out.1, HX.out.2.1⟩
  | true =>
    rw [hr] at HM
    simp only [if_true]
    have HRP := Lib.hid hr
    clear hr
    obtain ⟨R, hR⟩ : ∃ R, (if overP M x sz = true then (M, 12) else if 512 < M.length + sz / 256 then (M, 13) else (addN prot f off M x (sz / 256), (0 : Int))) = R := ⟨_, rfl⟩
    rw [hR]
    have HRR := Lib.hid hR
    clear hR
    go_enter Try.func22, Try.ntmps22
    go_wp2_with fail
    refine HM.out.mono ?_
    rintro r0 wX ⟨rfl, hwX⟩
    subst hwX
    clear hw1
    have HR1 : Hid (RAt w1 B a n c M) := Lib.hid (HH.out.below (HB01.out.mono HB.out))
    have HBZ : Hid (B ≤ w1.heap.size) := Lib.hid (Nat.le_trans HB.out HB01.out.size)
    have hrp := HRP.out
    rw [Bool.and_eq_true] at hrp
    have HRG := Lib.hid hrp.1
    have HPR := Lib.hid hrp.2
    have hrg := hrp.1
    unfold rangeP at hrg
    simp only [Bool.and_eq_true, decide_eq_true_eq] at hrg
    obtain ⟨m, hm⟩ : ∃ m, sz = 256 * m := ⟨sz / 256, by omega⟩
    have hx4 : (x : Int) + (sz : Int) ≤ 4294967296 := by omega
    have HX4 := Lib.hid hx4
    have hwr : IntKind.u64.wrap ((x : Int) + (sz : Int)) = (x : Int) + (sz : Int) := by
      show ((x : Int) + (sz : Int)) % 18446744073709551616 = _
      omega
    have HM4 : Hid (m ≤ 16777216) := Lib.hid (by omega)
    have HMD : Hid (sz / 256 = m) := Lib.hid (by omega)
    have hq : (sz : Int) / 256 = m := by omega
    have HSM : Hid ((sz : Int) = (m : Int) * 256) := Lib.hid (by omega)
    clear hrp hrg hm hx4
    have c1 : w1.cell? ⟨w.heap.size, 0, none⟩ = some (.slice a n c) := B1.out.cell 0
    have c2 : w1.cell? ⟨w.heap.size + 1, 0, none⟩ = some (.slice none 0 0) := B2.out.cell 0
    have f2 : w1.frozen? ⟨w.heap.size + 1, 0, none⟩ = false := B2.out.frozen 0
    go_wp2
    go_loop [15] (fun i => ∃ k : Nat, k ≤ n ∧ i = .int .i64 k ∧ Hid (∀ j, j < k → meetB (M.getD j pg0).a 256 x sz = false)) (fun i => n - (intOf i).toNat)
    case atStart => exact ⟨0, Nat.zero_le _, by go_num, Lib.hid (fun j hj => absurd hj (by omega))⟩
    case round =>
      obtain ⟨k, hk, rfl, HNO⟩ := hrel
      by_cases hlt : k < n
      · have hlti : (k : Int) < n := by omega
        obtain ⟨b, off', rfl, hbB, hat⟩ := HR1.out.at hlt
        obtain ⟨q, hqq⟩ : ∃ q, M.getD k pg0 = q := ⟨_, rfl⟩
        rw [hqq] at hat
        have hqm : q ∈ M := by rw [← hqq]; exact pgs_mem (by rw [← HN.out]; exact hlt)
        have c0 : w1.cell? ⟨b, off' + k * 6, none⟩ = some (.int .u64 q.a) := hat.c0
        have hmi := meet_is (HH.out.ok q hqm) HRG.out
        have HK := Lib.hid hlt
        have HQ := Lib.hid hqq
        have HQM := Lib.hid hqm
        have HMI := Lib.hid hmi
        clear hat hqm hmi hqq
        by_cases h1 : x ≤ q.a
        · have h1i : (x : Int) ≤ (q.a : Int) := by omega
          by_cases h2 : q.a < x + sz
          · have h2i : (q.a : Int) < (x : Int) + (sz : Int) := by omega
            have HOV : Hid (overP M x sz = true) := Lib.hid (by
              unfold overP
              rw [List.any_eq_true]
              refine ⟨q, HQM.out, ?_⟩
              rw [HMI.out]; simp [h1, h2])
            clear h1 h2
            have hx := HRT.out w1 _ n c M (HR1.out.more HBZ.out) HB01.out B2.out
            have HX := Lib.hid hx
            have e2 := hx.2.2
            clear hx
            go_wp2
            refine bodyPost_ret (v := .tuple #[.agg #[.slice (some ⟨b, off', none⟩) n c], .int .i64 12]) (by simp [results, Try.results22, go_sem, e2]) rfl ?_
            rw [← HRR.out, if_pos HOV.out]
            exact ⟨_, n, c, rfl, HX.out.1, HX.out.2.1⟩
          · have h2i : ¬ (q.a : Int) < (x : Int) + (sz : Int) := by omega
            have HNN : Hid (meetB q.a 256 x sz = false) := Lib.hid (by rw [HMI.out]; simp [h2])
            clear h1 h2
            go_wp2
            refine ⟨⟨k + 1, HK.out, by go_num, Lib.hid fun j hj => ?_⟩, by have := HK.out; simp [intOf]; omega⟩
            by_cases e : j = k
            · rw [e, HQ.out]; exact HNN.out
            · exact HNO.out j (by omega)
        · have h1i : ¬ (x : Int) ≤ (q.a : Int) := by omega
          have HNN : Hid (meetB q.a 256 x sz = false) := Lib.hid (by rw [HMI.out]; simp [h1])
          clear h1
          go_wp2
          refine ⟨⟨k + 1, HK.out, by go_num, Lib.hid fun j hj => ?_⟩, by have := HK.out; simp [intOf]; omega⟩
          by_cases e : j = k
          · rw [e, HQ.out]; exact HNN.out
          · exact HNO.out j (by omega)
      · have hlti : ¬ (k : Int) < n := by omega
        have HOV : Hid (overP M x sz = false) := Lib.hid (by
          unfold overP
          rw [List.any_eq_false]
          intro p hp
          obtain ⟨j, hj, rfl⟩ := List.getElem_of_mem hp
          have := HNO.out j (by rw [HN.out] at *; omega)
          rw [List.getD_eq_getElem?_getD, List.getElem?_eq_getElem hj] at this
          simpa using this)
        clear hlt hk
        by_cases hsz : 512 < n + m
        · have hszi : (512 : Int) < (n : Int) + (m : Int) := by omega
          have HSZ : Hid (512 < M.length + sz / 256) := Lib.hid (by rw [HMD.out, ← HN.out]; exact hsz)
          clear hsz
          have hx := HRT.out w1 _ n c M (HR1.out.more HBZ.out) HB01.out B2.out
          have HX := Lib.hid hx
          have e2 := hx.2.2
          clear hx
          go_wp2
          refine bodyPost_ret (v := .tuple #[.agg #[.slice a n c], .int .i64 13]) (by simp [results, Try.results22, go_sem, e2]) rfl ?_
          rw [← HRR.out, if_neg (by rw [HOV.out]; decide), if_pos HSZ.out]
          exact ⟨_, n, c, rfl, HX.out.1, HX.out.2.1⟩
        · have hszi : ¬ (512 : Int) < (n : Int) + (m : Int) := by omega
          have HSZ : Hid (n + m ≤ 512) := Lib.hid (by omega)
          have HRE : Hid (R = (addN prot f off M x m, 0)) := Lib.hid (by rw [← HRR.out, if_neg (by rw [HOV.out]; decide), HMD.out, if_neg (by rw [← HN.out]; omega)])
          have HAL : Hid (∀ k, k ≤ m → (∀ p ∈ addN prot f off M x k, p.Ok) ∧ ((M.map (·.a)).Pairwise (· < ·) → ((addN prot f off M x k).map (·.a)).Pairwise (· < ·))) := Lib.hid (fun k hk => addN_all HRG.out HPR.out hf HH.out.ok HOV.out k (by rw [HMD.out]; exact hk))
          have HAW : Hid (∀ k, k < m → withP (addN prot f off M x k) (newPg prot f off x k) = addN prot f off M x (k + 1) ∧ (newPg prot f off x k).Ok) := Lib.hid (fun k hk => ⟨addN_with HRG.out HH.out.ok HOV.out (by rw [HMD.out]; exact hk), newPg_ok HRG.out HPR.out hf (by rw [HMD.out]; exact hk)⟩)
          clear hsz
          go_wp2
          go_loopw [16, 17] (fun d _ wr => ∃ (k : Nat) (a' : Option Addr) (n' c' : Nat), k ≤ m ∧ d = .int .u64 ((x : Int) + (k : Int) * 256) ∧ Hid (RAt wr wr.heap.size a' n' c' (addN prot f off M x k)) ∧ Hid (Blk wr w.heap.size #[.slice a' n' c'] 34) ∧ Hid (Blk wr (w.heap.size + 1) #[.slice none 0 0] 34) ∧ Hid (Below w.heap.size w wr)) (fun d _ _ => m - ((intOf d - x) / 256).toNat)
          case atStart => exact ⟨0, a, n, c, Nat.zero_le _, by go_num, Lib.hid (HR1.out.more HBZ.out), B1, B2, HB01⟩
          case round =>
            obtain ⟨k, a', n', c', hkm, rfl, HRA, HK1, HK2, HBL⟩ := hrel
            have d1 : wr.cell? ⟨w.heap.size, 0, none⟩ = some (.slice a' n' c') := HK1.out.cell 0
            have d2 : wr.cell? ⟨w.heap.size + 1, 0, none⟩ = some (.slice none 0 0) := HK2.out.cell 0
            have f1 : wr.frozen? ⟨w.heap.size, 0, none⟩ = false := HK1.out.frozen 0
            have f3 : wr.frozen? ⟨w.heap.size + 1, 0, none⟩ = false := HK2.out.frozen 0
            clear c1 c2 f2
            have hx4 := HX4.out
            by_cases hlt : k < m
            · have hlti : (x : Int) + (k : Int) * 256 < (x : Int) + (sz : Int) := by rw [HSM.out]; omega
              have HK := Lib.hid hlt
              have hzw : w.heap.size + 1 < wr.heap.size := HK2.out.lt
              have HZW := Lib.hid hzw
              have hwa : IntKind.u64.wrap ((k : Int) * 256) = (k : Int) * 256 := by
                show ((k : Int) * 256) % 18446744073709551616 = _
                have := HM4.out
                omega
              have hwd : IntKind.u64.wrap ((x : Int) + (k : Int) * 256 + 256) = (x : Int) + ((k + 1 : Nat) : Int) * 256 := by
                show ((x : Int) + (k : Int) * 256 + 256) % 18446744073709551616 = _
                have := HM4.out
                omega
              have HNO2 : Hid (∀ wx, Below wr.heap.size wr wx → Calls Try.prog 42 #[] wx fun r w' => r = .returned (.string (strOfNums zeros)) ∧ Hid (Below wr.heap.size wr w') ∧ w'.cell? ⟨w.heap.size, 0, none⟩ = some (.slice a' n' c') ∧ w'.frozen? ⟨w.heap.size, 0, none⟩ = false) := Lib.hid (fun wx hb => (noughts_ok wx).mono fun r w' hr => by
                have h2 : Below wr.heap.size wr w' := hb.trans (hr.2.mono hb.size)
                exact ⟨hr.1, Lib.hid h2, (HK1.out.later h2).cell 0, (HK1.out.later h2).frozen 0⟩)
              obtain ⟨P, hP⟩ : ∃ P, newPg prot f off x k = P := ⟨_, rfl⟩
              have HWI : Hid (∀ wx, Below wr.heap.size wr wx → Calls Try.prog 41 #[.agg #[.slice a' n' c'], pv P] wx fun r w' => ∃ a2 n2 c2, r = .returned (.agg #[.slice a2 n2 c2]) ∧ Hid (RAt w' w'.heap.size a2 n2 c2 (addN prot f off M x (k + 1)) ∧ Below wr.heap.size wr w') ∧ w'.cell? ⟨w.heap.size, 0, none⟩ = some (.slice a' n' c') ∧ w'.frozen? ⟨w.heap.size, 0, none⟩ = false) := Lib.hid (fun wx hb => by
                have hra : RAt wx wr.heap.size a' n' c' (addN prot f off M x k) := HRA.out.below hb
                have haw := (HAW.out k hlt).1
                rw [hP] at haw
                have hpo := (HAW.out k hlt).2
                rw [hP] at hpo
                have := rwith_ok (p := P) hra hb.size hpo (by rw [haw, addN_len, ← HN.out]; have := HSZ.out; omega)
                rw [haw] at this
                refine this.mono ?_
                rintro r w' ⟨a2, n2, c2, rfl, h1, h2⟩
                have h3 : Below wr.heap.size wr w' := hb.trans (h2.mono hb.size)
                exact ⟨a2, n2, c2, rfl, Lib.hid ⟨h1, h3⟩, (HK1.out.later h3).cell 0, (HK1.out.later h3).frozen 0⟩)
              have HND : Hid (∀ (wx : World) (a2 : Option Addr) (n2 c2 : Nat), Hid (RAt wx wx.heap.size a2 n2 c2 (addN prot f off M x (k + 1)) ∧ Below wr.heap.size wr wx) → Hid (RAt (wx.setCell ⟨w.heap.size, 0, none⟩ (.slice a2 n2 c2)) (wx.setCell ⟨w.heap.size, 0, none⟩ (.slice a2 n2 c2)).heap.size a2 n2 c2 (addN prot f off M x (k + 1))) ∧ Hid (Blk (wx.setCell ⟨w.heap.size, 0, none⟩ (.slice a2 n2 c2)) w.heap.size #[.slice a2 n2 c2] 34) ∧ Hid (Blk (wx.setCell ⟨w.heap.size, 0, none⟩ (.slice a2 n2 c2)) (w.heap.size + 1) #[.slice none 0 0] 34) ∧ Hid (Below w.heap.size w (wx.setCell ⟨w.heap.size, 0, none⟩ (.slice a2 n2 c2)))) := Lib.hid (fun wx a2 n2 c2 hh => by
                obtain ⟨h1, h2⟩ := hh.out
                have hk1 := HK1.out.later h2
                have hk2 := HK2.out.later h2
                have hra := h1.setBox hk1 (.slice a2 n2 c2)
                refine ⟨Lib.hid (by simpa using hra), Lib.hid (by have := hk1.put 0 (.slice a2 n2 c2); simpa using this), Lib.hid (blk_same hk2 (Below.heap_setCell _ _ _ _ (by show w.heap.size + 1 ≠ w.heap.size; omega))), Lib.hid ?_⟩
                exact ((HBL.out.trans (h2.mono HBL.out.size))).setCell (p := ⟨w.heap.size, 0, none⟩) (Nat.le_refl _) _)
              have hb0 := Below.refl wr.heap.size wr
              clear hlt hkm hzw d2 f3 hx4
              cases hfe : f.toList.isEmpty with
              | true =>
                have hP2 : P = ⟨x + k * 256, prot, false, f, 0, zeros⟩ := by rw [← hP]; unfold newPg; rw [if_pos hfe]
                subst hP2
                unfold pv at HWI
                simp only [Int.natCast_add, Int.natCast_mul, Int.cast_ofNat_Int] at HWI
                clear hP
                go_wp2
                go_region_with (first | (go_at_call 42; refine (HNO2.out _ (by first | exact hb0.drew | assumption)).mono ?_; rintro r w5 ⟨rfl, hb5, z1, z2⟩) | (go_at_call 41; refine (HWI.out _ (by first | exact hb5.out.drew | exact hb5.out)).mono ?_; rintro r w6 ⟨a2, n2, c2, rfl, hr6, z1, z2⟩))
                all_goals
                  go_wp2
                  go_roundw
                  case rel =>
                    obtain ⟨e1, e2, e3, e4⟩ := HND.out w6 a2 n2 c2 hr6
                    exact ⟨k + 1, a2, n2, c2, HK.out, by go_num, e1, e2, e3, e4⟩
                  case measure => have := HK.out; simp [intOf]; omega
              | false =>
                have hP2 : P = ⟨x + k * 256, prot, false, f, IntKind.u64.wrap (off + (k : Int) * 256), zeros⟩ := by rw [← hP]; unfold newPg; rw [if_neg (by rw [hfe]; decide)]
                obtain ⟨OW, hOW⟩ : ∃ OW, IntKind.u64.wrap (off + (k : Int) * 256) = OW := ⟨_, rfl⟩
                rw [hOW] at hP2
                subst hP2
                unfold pv at HWI
                simp only [Int.natCast_add, Int.natCast_mul, Int.cast_ofNat_Int] at HWI
                have hwb : IntKind.u64.wrap ((x : Int) + (k : Int) * 256 - (x : Int)) = (k : Int) * 256 := by rw [show (x : Int) + (k : Int) * 256 - (x : Int) = (k : Int) * 256 by omega]; exact hwa
                have HWD := Lib.hid hwd
                clear hP hwd
                go_wp2
                go_region_with (first | (go_at_call 42; refine (HNO2.out _ (by first | exact hb0.drew | assumption)).mono ?_; rintro r w5 ⟨rfl, hb5, z1, z2⟩) | (go_at_call 41; refine (HWI.out _ (by first | exact hb5.out.drew | exact hb5.out)).mono ?_; rintro r w6 ⟨a2, n2, c2, rfl, hr6, z1, z2⟩))
                all_goals
                  have hwd := HWD.out
                  clear hwa hwb
                  go_wp2
                  go_roundw
                  case rel =>
                    obtain ⟨e1, e2, e3, e4⟩ := HND.out w6 a2 n2 c2 hr6
                    exact ⟨k + 1, a2, n2, c2, HK.out, by go_num, e1, e2, e3, e4⟩
                  case measure => have := HK.out; simp [intOf]; omega
            · have hlti : ¬ (x : Int) + (k : Int) * 256 < (x : Int) + (sz : Int) := by rw [HSM.out]; omega
              obtain rfl : k = m := by omega
              have hx := HRT.out wr a' n' c' _ HRA.out HBL.out HK2.out
              have HX := Lib.hid hx
              have e2 := hx.2.2
              clear hx hlt hkm
              go_wp2
              refine bodyPost_ret (v := .tuple #[.agg #[.slice a' n' c'], .int .i64 0]) (by simp [results, Try.results22, go_sem, e2]) rfl ?_
              rw [HRE.out]
              exact ⟨_, n', c', rfl, HX.out.1, HX.out.2.1⟩
end Go.Proofs.Ytahjgbmhleiocaa
