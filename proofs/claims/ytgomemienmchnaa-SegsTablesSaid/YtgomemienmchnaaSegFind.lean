/-
  What is proved here: Find and Place of package segs and of its reference.
  Conditions: none but that the arguments are values of their types.
-/
import Derived.Test.YtgomemienmchnaaSegSearch
namespace Go.Proofs.Ytgomemienmchnaa
open Go.RowKit
set_option linter.unusedVariables false
set_option linter.unusedSimpArgs false

theorem foundV_eq (r : Option Sg) : foundV r = (r.getD sg0).val := by cases r <;> rfl
def kindB (kind : Int) (s : Sg) : Bool := s.ty == kind
/-- Where an address stands in the file. -/
def placedS (s : Sg) (addr : Int) : Int := IntKind.u64.wrap (s.ot + (addr - s.va))
def placeV (L : List Sg) (addr size : Int) : Value :=
  if size = 0 then .tuple #[.int .u64 0, .int .i64 40]
  else match L.find? (placeB addr size) with
    | none => .tuple #[.int .u64 0, .int .i64 40]
    | some s => .tuple #[.int .u64 (placedS s addr), .int .i64 0]

set_option maxRecDepth 100000 in
set_option maxHeartbeats 800000 in
theorem sfind_any (B : Nat) (a : Option Addr) (len cap : Nat) (L : List Sg) (kind : Int) (w : World) (hs : Sgs w B a len L) (hB : B ≤ w.heap.size) (hl : (len : Int) ≤ 9223372036854775807) :
    Calls Try.prog 22 #[.slice a len cap, .int .u32 kind] w fun e w' => e = .returned (.tuple #[foundV (L.find? (kindB kind)), .bool (L.find? (kindB kind)).isSome]) ∧ Below w.heap.size w w' := by
  have hmf : ∀ (fn : Fn) (first cap : Array Value) (w : World), (Instr.makeFunc fn first cap).run Try.prog w = .ok (.func fn first cap) w := fun _ _ _ _ => rfl
  have hb0 : Below w.heap.size w ((w.alloc (.cells #[.int .u32 kind] 22)).alloc (.cells sg0.cells 25)) := ((Below.refl _ _).alloc (Nat.le_refl _) _).alloc (by simp) _
  have hk := search41 B a len cap L (kindB kind) w.heap.size ((w.alloc (.cells #[.int .u32 kind] 22)).alloc (.cells sg0.cells 25)) (hs.below (hb0.mono hB)) (by simp; omega) hl (fun s w1 _ h1 =>
    find1_any s w.heap.size kind w1 ((((Blk.new w _ _).alloc _).later h1).cell 0))
  rw [foundV_eq] at hk ⊢
  obtain ⟨s, hs'⟩ : ∃ s, (L.find? (kindB kind)).getD sg0 = s := ⟨_, rfl⟩
  obtain ⟨q, hq⟩ : ∃ q, (L.find? (kindB kind)).isSome = q := ⟨_, rfl⟩
  rw [hs', hq] at hk ⊢
  have K := Lib.hid hk
  have HB0 := Lib.hid hb0
  clear hk hs hs' hq hb0
  obtain ⟨ty, fl, ot, va, fi, me, al⟩ := s
  unfold Sg.val Sg.cells sg0 at *
  go_enter Try.func22, Try.ntmps22
  go_wp2_with fail
  refine K.out.mono ?_
  rintro e w2 ⟨rfl, hb2⟩
  obtain ⟨q0, q1, q2, q3, q4, q5, q6⟩ := ((Blk.new (w.alloc (.cells #[.int .u32 kind] 22)) _ _).later hb2).c7
  obtain ⟨f0, f1, f2, f3, f4, f5, f6⟩ := ((Blk.new (w.alloc (.cells #[.int .u32 kind] 22)) _ _).later hb2).f7
  simp only [World.size_alloc] at q0 q1 q2 q3 q4 q5 q6 f0 f1 f2 f3 f4 f5 f6
  have HB3 := Lib.hid (HB0.out.trans (hb2.mono HB0.out.size))
  clear hb2
  go_wp2
  refine bodyPost_ret (v := .tuple #[.agg #[.int .u32 ty, .int .u32 fl, .int .u64 ot, .int .u64 va, .int .u64 fi, .int .u64 me, .int .u64 al], .bool q]) (by simp [results, Try.results22, go_sem, q0, q1, q2, q3, q4, q5, q6]) rfl ⟨rfl, ?_⟩
  exact ((((((HB3.out.setCell (Nat.le_succ _) _).setCell (Nat.le_succ _) _).setCell (Nat.le_succ _) _).setCell (Nat.le_succ _) _).setCell (Nat.le_succ _) _).setCell (Nat.le_succ _) _).setCell (Nat.le_succ _) _

set_option maxRecDepth 100000 in
set_option maxHeartbeats 800000 in
theorem splace_any (B : Nat) (a : Option Addr) (len cap : Nat) (L : List Sg) (addr size : Int) (w : World) (hs : Sgs w B a len L) (hB : B ≤ w.heap.size) (hl : (len : Int) ≤ 9223372036854775807) (a0 : 0 ≤ addr) (a1 : addr ≤ 18446744073709551615) (z0 : 0 ≤ size) (z1 : size ≤ 18446744073709551615) :
    Calls Try.prog 20 #[.slice a len cap, .int .u64 addr, .int .u64 size] w fun e w' => e = .returned (placeV L addr size) ∧ Below w.heap.size w w' := by
  have hmf : ∀ (fn : Fn) (first cap : Array Value) (w : World), (Instr.makeFunc fn first cap).run Try.prog w = .ok (.func fn first cap) w := fun _ _ _ _ => rfl
  have hb0 : Below w.heap.size w ((w.alloc (.cells #[.int .u64 addr] 23)).alloc (.cells #[.int .u64 size] 23)) := ((Below.refl _ _).alloc (Nat.le_refl _) _).alloc (by simp) _
  unfold placeV
  by_cases h0 : size = 0
  · subst h0
    have HB0 := Lib.hid hb0
    clear hb0 hs
    go_enter Try.func20, Try.ntmps20
    go_wp2
    go_ret2
    exact ⟨rfl, HB0.out⟩
  · rw [if_neg h0]
    have hk := search39 B a len cap L (placeB addr size) w.heap.size (w.heap.size + 1) ((w.alloc (.cells #[.int .u64 addr] 23)).alloc (.cells #[.int .u64 size] 23)) (hs.below (hb0.mono hB)) (by simp; omega) hl (fun s w1 hok h1 =>
      place1_any s w.heap.size (w.heap.size + 1) addr size w1 hok a0 a1 z0 z1 ((((Blk.new w _ _).alloc _).later h1).cell 0) (by
        have := ((Blk.new (w.alloc (.cells #[.int .u64 addr] 23)) #[.int .u64 size] 23).later h1).cell 0
        simpa using this))
    have HA : Hid (∀ w2, Below ((w.alloc (.cells #[.int .u64 addr] 23)).alloc (.cells #[.int .u64 size] 23)).heap.size ((w.alloc (.cells #[.int .u64 addr] 23)).alloc (.cells #[.int .u64 size] 23)) w2 → w2.cell? ⟨w.heap.size, 0, none⟩ = some (.int .u64 addr) ∧ w.heap.size < w2.heap.size) := Lib.hid (fun w2 h2 => ⟨(((Blk.new w _ _).alloc _).later h2).cell 0, by have := h2.size; simp at this; omega⟩)
    have HB0 := Lib.hid hb0
    have h0' : (size == 0) = false := by simpa using h0
    clear hb0 hs
    cases hf : L.find? (placeB addr size) with
    | none =>
      rw [hf] at hk
      have K := Lib.hid hk
      clear hk hf
      unfold foundV Sg.val sg0 at *
      simp only [Option.isSome] at K
      go_enter Try.func20, Try.ntmps20
      go_wp2_with fail
      refine K.out.mono ?_
      rintro e w2 ⟨rfl, hb2⟩
      have HB3 := Lib.hid (HB0.out.trans (hb2.mono HB0.out.size))
      clear hb2
      go_wp2
      go_ret2
      exact ⟨rfl, HB3.out.alloc HB3.out.size _⟩
    | some s =>
      rw [hf] at hk
      have K := Lib.hid hk
      clear hk hf
      have HP : Hid (IntKind.u64.wrap (IntKind.u64.wrap (s.ot + addr) - s.va) = placedS s addr) := Lib.hid (by
        unfold placedS
        simp only [IntKind.wrap_u64]
        omega)
      obtain ⟨ty, fl, ot, va, fi, me, al⟩ := s
      obtain ⟨r, hr⟩ : ∃ r, placedS ⟨ty, fl, ot, va, fi, me, al⟩ addr = r := ⟨_, rfl⟩
      simp only [hr] at HP ⊢
      clear hr
      unfold foundV Sg.val at *
      simp only [Option.isSome] at K HP
      go_enter Try.func20, Try.ntmps20
      go_wp2_with fail
      refine K.out.mono ?_
      rintro e w2 ⟨rfl, hb2⟩
      obtain ⟨hca, hlt⟩ := HA.out w2 hb2
      have hcb : ∀ o, (w2.alloc o).cell? ⟨w.heap.size, 0, none⟩ = some (.int .u64 addr) := fun o => by rw [World.cell?_alloc_past _ _ _ hlt]; exact hca
      have HB3 := Lib.hid (HB0.out.trans (hb2.mono HB0.out.size))
      have hpo := HP.out
      clear hb2
      go_wp2
      go_ret2
      exact ⟨rfl, HB3.out.alloc HB3.out.size _⟩

set_option maxRecDepth 100000 in
set_option maxHeartbeats 800000 in
theorem rfind_any (B : Nat) (a : Option Addr) (len cap : Nat) (L : List Sg) (kind : Int) (w : World) (hs : Sgs w B a len L) (hB : B ≤ w.heap.size) (hl : (len : Int) ≤ 9223372036854775807) :
    Calls Try.prog 23 #[.slice a len cap, .int .u32 kind] w fun e w' => ((∃ i : Nat, i < len ∧ e = .returned (.int .i64 i) ∧ L.find? (kindB kind) = some (L.getD i sg0)) ∨ (e = .returned (.int .i64 (-1)) ∧ L.find? (kindB kind) = none)) ∧ w = w' := by
  have HS := Lib.hid hs
  clear hs
  go_enter Try.func23, Try.ntmps23
  go_wp2
  go_loopw [5] (fun i wr => ∃ k : Nat, k ≤ len ∧ i = .int .i64 k ∧ (∀ j, j < k → kindB kind (L.getD j sg0) = false) ∧ w = wr) (fun i _ => len - (intOf i).toNat)
  case atStart => exact ⟨0, Nat.zero_le _, rfl, fun j hj => absurd hj (by omega), rfl⟩
  case round =>
    obtain ⟨k, hk, rfl, hno, rfl⟩ := hrel
    by_cases hlt : k < len
    · obtain ⟨b, off, rfl, hbB, hcell⟩ := HS.out.hc (by omega)
      have hsev := (hcell k hlt).c0
      have HAT := Lib.hid (fun h => find_at (p := kindB kind) (L := L) hno (by have := HS.out.hl; omega) h)
      have HNO : Hid (kindB kind (L.getD k sg0) = false → ∀ j, j < k + 1 → kindB kind (L.getD j sg0) = false) := Lib.hid (fun h j hj => by
        by_cases e : j = k
        · subst e; exact h
        · exact hno j (by omega))
      obtain ⟨q, hq⟩ : ∃ q, kindB kind (L.getD k sg0) = q := ⟨_, rfl⟩
      rw [hq] at HAT HNO
      have hq' : ((L.getD k sg0).ty == kind) = q := hq
      generalize (L.getD k sg0).ty = ty at hsev hq'
      clear hcell hno hq
      cases q with
      | true =>
        have h1 : ty = kind := by simpa using hq'
        subst h1
        go_wp2
        go_ret
        exact ⟨.inl ⟨k, hlt, rfl, HAT.out (by trivial)⟩, rfl⟩
      | false =>
        have h1 : ¬ ty = kind := by simpa using hq'
        go_wp2
        go_roundw
        case rel => exact ⟨k + 1, by omega, by go_num, HNO.out (by trivial), by trivial⟩
        case measure => simp [intOf]; omega
    · obtain rfl : k = len := by omega
      have hr2 := find_no (p := kindB kind) (L := L) (fun j hj => hno j (by have := HS.out.hl; omega))
      go_wp2
      go_ret
      exact ⟨.inr ⟨rfl, hr2⟩, rfl⟩

set_option maxRecDepth 100000 in
set_option maxHeartbeats 1600000 in
theorem rplace_any (B : Nat) (a : Option Addr) (len cap : Nat) (L : List Sg) (addr size : Int) (w : World) (hs : Sgs w B a len L) (hB : B ≤ w.heap.size) (hl : (len : Int) ≤ 9223372036854775807) (a0 : 0 ≤ addr) (a1 : addr ≤ 18446744073709551615) (z0 : 0 ≤ size) (z1 : size ≤ 18446744073709551615) :
    Calls Try.prog 21 #[.slice a len cap, .int .u64 addr, .int .u64 size] w fun e w' => e = .returned (placeV L addr size) ∧ Below w.heap.size w w' := by
  obtain ⟨V, hV⟩ : ∃ V, placeV L addr size = V := ⟨_, rfl⟩
  rw [hV]
  unfold placeV at hV
  by_cases h0 : size = 0
  · rw [if_pos h0] at hV
    subst h0 hV
    have HB0 := Lib.hid (Below.refl w.heap.size w)
    clear hs
    go_enter Try.func21, Try.ntmps21
    go_wp2
    go_ret2
    exact ⟨rfl, HB0.out⟩
  · rw [if_neg h0] at hV
    have h0' : (size == 0) = false := by simpa using h0
    have HS := Lib.hid hs
    have HV := Lib.hid hV
    clear hs hV
    go_enter Try.func21, Try.ntmps21
    go_wp2
    go_loopw [8, 9] (fun i _ wr => ∃ k : Nat, k ≤ len ∧ i = .int .i64 k ∧ (∀ j, j < k → placeB addr size (L.getD j sg0) = false) ∧ Below w.heap.size w wr) (fun i _ _ => len - (intOf i).toNat)
    case atStart => exact ⟨0, Nat.zero_le _, rfl, fun j hj => absurd hj (by omega), Below.refl _ _⟩
    case round =>
      obtain ⟨k, hk, rfl, hno, hbel⟩ := hrel
      by_cases hlt : k < len
      · obtain ⟨b, off, rfl, hbB, hcell⟩ := HS.out.hc (by omega)
        have hsev := (hcell k hlt).below (hbel.mono hB) hbB
        have hok := HS.out.okAt hlt
        have HAT := Lib.hid (fun h => find_at (p := placeB addr size) (L := L) hno (by have := HS.out.hl; omega) h)
        have HNO : Hid (placeB addr size (L.getD k sg0) = false → ∀ j, j < k + 1 → placeB addr size (L.getD j sg0) = false) := Lib.hid (fun h j hj => by
          by_cases e : j = k
          · subst e; exact h
          · exact hno j (by omega))
        obtain ⟨s, hsd⟩ : ∃ s, L.getD k sg0 = s := ⟨_, rfl⟩
        rw [hsd] at hsev hok HAT HNO
        have HB2 : Hid (∀ o, Below w.heap.size w (wr.alloc o)) := Lib.hid (fun o => hbel.alloc hbel.size o)
        clear hcell hsd hno hbel
        obtain ⟨-, -, ⟨o0, o1⟩, ⟨d0, d1⟩, ⟨e0, e1⟩, -, -⟩ := hok
        obtain ⟨c0, c1, c2, c3, c4, c5, c6⟩ := hsev
        obtain ⟨ty, fl, ot, va, fi, me, al⟩ := s
        simp only at c0 c1 c2 c3 c4 c5 c6 o0 o1 d0 d1 e0 e1
        have hw1 : va ≤ addr → IntKind.u64.wrap (addr - va) = addr - va := fun h => by rw [IntKind.wrap_u64]; omega
        by_cases t1 : ty = 1
        · by_cases t2 : va ≤ addr
          · have hw1' := hw1 t2
            by_cases t3 : addr - va ≤ fi
            · have hw2 : IntKind.u64.wrap (fi - (addr - va)) = fi - (addr - va) := by rw [IntKind.wrap_u64]; omega
              by_cases t4 : size ≤ fi - (addr - va)
              · have hr := HAT.out (by simp [placeB, contB, t1, t2, t3, t4])
                have hv := HV.out
                rw [hr] at hv
                simp only [placedS] at hv
                subst hv
                clear HAT HNO hr
                go_wp2
                go_ret2
                exact ⟨rfl, HB2.out _⟩
              · have hn := Lib.hid (HNO.out (by simp [placeB, contB, t1, t2, t3, t4]))
                clear HAT HNO
                go_wp2
                go_roundw
                case rel => exact ⟨k + 1, by omega, by go_num, hn.out, HB2.out _⟩
                case measure => simp [intOf]; omega
            · have hn := Lib.hid (HNO.out (by simp [placeB, contB, t1, t2, t3]))
              clear HAT HNO
              go_wp2
              go_roundw
              case rel => exact ⟨k + 1, by omega, by go_num, hn.out, HB2.out _⟩
              case measure => simp [intOf]; omega
          · have hn := Lib.hid (HNO.out (by simp [placeB, contB, t1, t2]))
            clear HAT HNO
            go_wp2
            go_roundw
            case rel => exact ⟨k + 1, by omega, by go_num, hn.out, HB2.out _⟩
            case measure => simp [intOf]; omega
        · have t1' : (ty != 1) = true := by simpa using t1
          have hn := Lib.hid (HNO.out (by simp [placeB, contB, t1]))
          clear HAT HNO
          go_wp2
          go_roundw
          case rel => exact ⟨k + 1, by omega, by go_num, hn.out, HB2.out _⟩
          case measure => simp [intOf]; omega
      · obtain rfl : k = len := by omega
        have hr2 := find_no (p := placeB addr size) (L := L) (fun j hj => hno j (by have := HS.out.hl; omega))
        have hv := HV.out
        rw [hr2] at hv
        subst hv
        go_wp2
        go_ret2
        exact ⟨rfl, hbel⟩
end Go.Proofs.Ytgomemienmchnaa
