/-
  What is proved here: Put of the reference of notes: refused for a byte 0 in a name; the notes' bytes in new memory; refused for more than 65536.
  Conditions: none but that the arguments are values of their types, and notes of less than 900000 bytes in all.
-/
import Derived.Test.YtkgakdlalmmdiaaNotRef
import Derived.Test.YtkgakdlalmmdiaaNotForth
namespace Go.Proofs.Ytkgakdlalmmdiaa
open Go.RowKit
set_option linter.unusedVariables false
set_option linter.unusedSimpArgs false

/-- No byte 0. -/
def NoZ (zs : List Int) : Prop := ∀ i, i < zs.length → zs.getD i 0 ≠ 0
/-- The first byte 0. -/
def FirstZ (zs : List Int) (k : Nat) : Prop := k < zs.length ∧ zs.getD k 0 = 0 ∧ ∀ i, i < k → zs.getD i 0 ≠ 0
theorem zero_or (zs : List Int) : (NoZ zs ∧ zs.any (fun c => decide (c = 0)) = false) ∨ ∃ k, FirstZ zs k ∧ zs.any (fun c => decide (c = 0)) = true := by
  have h : ∀ m, (∀ i, i < m → zs.getD i 0 ≠ 0) ∨ ∃ k, k < m ∧ zs.getD k 0 = 0 ∧ ∀ i, i < k → zs.getD i 0 ≠ 0 := by
    intro m
    induction m with
    | zero => exact .inl fun i hi => absurd hi (by omega)
    | succ m ih =>
      rcases ih with ih | ⟨k, h1, h2, h3⟩
      · by_cases e : zs.getD m 0 = 0
        · exact .inr ⟨m, by omega, e, ih⟩
        · refine .inl fun i hi => ?_
          by_cases e2 : i = m
          · rw [e2]; exact e
          · exact ih i (by omega)
      · exact .inr ⟨k, by omega, h2, h3⟩
  rcases h zs.length with h | ⟨k, h1, h2, h3⟩
  · refine .inl ⟨h, ?_⟩
    rw [List.any_eq_false]
    intro x hx
    obtain ⟨i, hi, rfl⟩ := List.getElem_of_mem hx
    have := h i hi
    rw [List.getD_eq_getElem?_getD, List.getElem?_eq_getElem hi] at this
    simpa using this
  · refine .inr ⟨k, ⟨h1, h2, h3⟩, ?_⟩
    rw [List.any_eq_true]
    refine ⟨zs[k], List.getElem_mem h1, ?_⟩
    rw [List.getD_eq_getElem?_getD, List.getElem?_eq_getElem h1] at h2
    simpa using h2
theorem zeros_or (L : List Nt) : ((∀ i, i < L.length → NoZ (bs (L.getD i Nt.zero).na)) ∧ (L.map Nt.nd).any zeroIn = false) ∨
    ∃ n m, n < L.length ∧ (∀ i, i < n → NoZ (bs (L.getD i Nt.zero).na)) ∧ FirstZ (bs (L.getD n Nt.zero).na) m ∧ (L.map Nt.nd).any zeroIn = true := by
  have h : ∀ m, (∀ i, i < m → NoZ (bs (L.getD i Nt.zero).na)) ∨ ∃ n k, n < m ∧ (∀ i, i < n → NoZ (bs (L.getD i Nt.zero).na)) ∧ FirstZ (bs (L.getD n Nt.zero).na) k := by
    intro m
    induction m with
    | zero => exact .inl fun i hi => absurd hi (by omega)
    | succ m ih =>
      rcases ih with ih | ⟨n, k, h1, h2, h3⟩
      · rcases zero_or (bs (L.getD m Nt.zero).na) with ⟨e, -⟩ | ⟨k, e, -⟩
        · refine .inl fun i hi => ?_
          by_cases e2 : i = m
          · rw [e2]; exact e
          · exact ih i (by omega)
        · exact .inr ⟨m, k, by omega, ih, e⟩
      · exact .inr ⟨n, k, by omega, h2, h3⟩
  rcases h L.length with h | ⟨n, m, h1, h2, h3⟩
  · refine .inl ⟨h, ?_⟩
    rw [List.any_eq_false]
    intro x hx
    obtain ⟨s, hs, rfl⟩ := List.mem_map.1 hx
    obtain ⟨i, hi, rfl⟩ := List.getElem_of_mem hs
    have := h i hi
    rw [List.getD_eq_getElem?_getD, List.getElem?_eq_getElem hi] at this
    rcases zero_or (bs L[i].na) with ⟨-, e⟩ | ⟨k, e, -⟩
    · rw [show zeroIn L[i].nd = false from e]; decide
    · exact absurd e.2.1 (this k e.1)
  · refine .inr ⟨n, m, h1, h2, h3, ?_⟩
    rw [List.any_eq_true]
    refine ⟨(L.getD n Nt.zero).nd, List.mem_map_of_mem (Nt.getD_mem h1), ?_⟩
    rcases zero_or (bs (L.getD n Nt.zero).na) with ⟨e, -⟩ | ⟨k, -, e⟩
    · exact absurd h3.2.1 (e m h3.1)
    · simpa [zeroIn, Nt.nd] using e
/-- A byte of a string, as the walk reads it. -/
theorem byte_ne {s : ByteArray} {j : Nat} (h : j < s.size) (hz : (bs s).getD j 0 ≠ 0) : ((s[j]'h).toNat : Int) ≠ 0 := by
  rw [bs_getElem h] at hz; exact hz
theorem byte_eq {s : ByteArray} {j : Nat} (h : j < s.size) (hz : (bs s).getD j 0 = 0) : ((s[j]'h).toNat : Int) = 0 := by
  rw [bs_getElem h] at hz; exact hz

set_option maxRecDepth 100000 in
set_option maxHeartbeats 800000 in
theorem rput8_arg (B : Nat) (a : Option Addr) (len cap : Nat) (L : List Nt) (w : World) (n m : Nat) (hs : Nt.Sl w B a len L) (hl : (len : Int) ≤ 9223372036854775807) (hn : n < len) (hc : ∀ i, i < n → NoZ (bs (L.getD i Nt.zero).na)) (hm : FirstZ (bs (L.getD n Nt.zero).na) m) :
    Calls Try.prog 12 #[.slice a len cap] w fun e w' => e = .returned (.tuple #[.slice none 0 0, .int .i64 1]) ∧ w = w' := by
  obtain ⟨b, off, rfl, _, hcell⟩ := hs.hc (by omega)
  have HC := Lib.hid hc
  have HL := Lib.hid hcell
  have HM := Lib.hid hm
  have HSZ : Hid (∀ i, i < len → (L.getD i Nt.zero).na.size ≤ maxLen) := Lib.hid fun i hi => (hs.okAt hi).na
  clear hs hc hcell hm
  go_enter Try.func12, Try.ntmps12
  go_wp2
  go_loop [5] (fun i => ∃ k : Nat, k ≤ n ∧ i = .int .i64 k) (fun i => len - (intOf i).toNat)
  case atStart => exact ⟨0, Nat.zero_le _, rfl⟩
  case round =>
    obtain ⟨k, hk, rfl⟩ := hrel
    have hkl : k < len := by omega
    obtain ⟨s, hsn⟩ : ∃ s, s = (L.getD k Nt.zero).na := ⟨_, rfl⟩
    have hc : w.cell? ⟨b, off + k * 3, none⟩ = some (.string s) := hsn ▸ (HL.out k hkl).c0
    have hss : (s.size : Int) ≤ 9223372036854775807 := by have := HSZ.out k hkl; rw [hsn]; unfold maxLen at this; omega
    by_cases hlt : k < n
    · have HNZ : Hid (NoZ (bs s)) := Lib.hid (hsn ▸ HC.out k hlt)
      clear hsn
      go_wp2
      go_loop [6] (fun i => ∃ j : Nat, j ≤ s.size ∧ i = .int .i64 j) (fun i => s.size - (intOf i).toNat)
      case atStart => exact ⟨0, Nat.zero_le _, rfl⟩
      case round =>
        obtain ⟨j, hj, rfl⟩ := hrel
        by_cases hjs : j < s.size
        · have hne := byte_ne hjs (HNZ.out j (by rw [bs_len]; exact hjs))
          go_wp2
          go_round
          case rel => exact ⟨j + 1, by omega, by go_num⟩
          case measure => simp [intOf]; omega
        · obtain rfl : j = s.size := by omega
          go_wp2
          go_round
          case rel => exact ⟨k + 1, by omega, by go_num⟩
          case measure => simp [intOf]; omega
    · obtain rfl : k = n := by omega
      have HFZ : Hid (FirstZ (bs s) m) := Lib.hid (hsn ▸ HM.out)
      have hms : m < s.size := by have := HFZ.out.1; rwa [bs_len] at this
      clear hsn
      go_wp2
      go_loop [6] (fun i => ∃ j : Nat, j ≤ m ∧ i = .int .i64 j) (fun i => s.size - (intOf i).toNat)
      case atStart => exact ⟨0, Nat.zero_le _, rfl⟩
      case round =>
        obtain ⟨j, hj, rfl⟩ := hrel
        have hjs : j < s.size := by omega
        by_cases hjm : j < m
        · have hne := byte_ne hjs (HFZ.out.2.2 j hjm)
          go_wp2
          go_round
          case rel => exact ⟨j + 1, by omega, by go_num⟩
          case measure => simp [intOf]; omega
        · obtain rfl : j = m := by omega
          have heq := byte_eq hjs HFZ.out.2.1
          go_wp2
          go_ret2
          exact ⟨rfl, rfl⟩

/-! ### The bytes -/
/-- A row of the call's own that reads as bytes. -/
def Rw (base : Nat) (w : World) (v : Value) (zs : List Int) : Prop := w.ownsRow base 5 1 v zs.length (zs.map (Value.int .u8))
theorem four8_r (base : Nat) (v : Value) (zs : List Int) (x : Int) (w : World) (ho : Rw base w v zs) (hbase : base ≤ w.heap.size) (hm : zs.length + 4 ≤ 1000000) (x0 : 0 ≤ x) (x1 : x ≤ 18446744073709551615) :
    Calls Try.prog 21 #[v, .int .u64 x] w fun r w' => ∃ v', r = .returned v' ∧ Rw base w' v' (zs ++ digs x 4) ∧ Below base w w' :=
  (four8_ok base v zs.length zs x w ho hbase hm x0 x1).mono fun r w' ⟨v', h1, h2, h3⟩ => ⟨v', h1, by unfold Rw; rw [List.length_append, digs_len]; exact h2, h3⟩
theorem padded8_r (base : Nat) (v : Value) (zs : List Int) (w : World) (ho : Rw base w v zs) (hbase : base ≤ w.heap.size) (hm : zs.length + 4 ≤ 1000000) :
    Calls Try.prog 22 #[v] w fun r w' => ∃ v', r = .returned v' ∧ Rw base w' v' (padN zs) ∧ Below base w w' :=
  (padded8_ok base v zs.length zs w ho hbase hm).mono fun r w' ⟨v', h1, h2, h3⟩ => ⟨v', h1, by unfold Rw; rw [padN_len]; exact h2, h3⟩
/-- The bytes of the first k notes. -/
def firstN (L : List Nt) (k : Nat) : List Int := flatN ((L.take k).map Nt.nd)
theorem firstN_succ {L : List Nt} {k : Nat} (h : k < L.length) : firstN L (k + 1) = firstN L k ++ encN (L.getD k Nt.zero).nd := by
  unfold firstN; rw [Nt.take_snoc h, List.map_append, List.map_singleton, flatN_snoc]
theorem firstN_all (L : List Nt) : firstN L L.length = flatN (L.map Nt.nd) := by unfold firstN; rw [List.take_length]
theorem firstN_le (L : List Nt) (k : Nat) : (firstN L k).length ≤ (flatN (L.map Nt.nd)).length := by
  have e : flatN (L.map Nt.nd) = firstN L k ++ flatN ((L.drop k).map Nt.nd) := by
    unfold firstN flatN
    rw [← List.flatMap_append, ← List.map_append, List.take_append_drop]
  rw [e, List.length_append]; omega
theorem firstN_mod (L : List Nt) (k : Nat) : (firstN L k).length % 4 = 0 := flatN_mod _
/-- A note's bytes as they are written, one part behind the other. -/
theorem enc_parts (F : List Int) (d : Nd) (hF : F.length % 4 = 0) : F ++ encN d = padN (padN (((F ++ digs (d.na.length + 1 : Nat) 4) ++ digs (d.de.length : Nat) 4) ++ digs d.ty 4 ++ d.na ++ [0]) ++ d.de) := by
  have h1 : (F ++ headN d).length % 4 = 0 := by rw [List.length_append, headN_len]; omega
  have e1 : ((F ++ digs (d.na.length + 1 : Nat) 4) ++ digs (d.de.length : Nat) 4) ++ digs d.ty 4 ++ d.na ++ [0] = (F ++ headN d) ++ (d.na ++ [0]) := by
    unfold headN; simp only [List.append_assoc]
  rw [e1, padN_app h1]
  have h2 : ((F ++ headN d) ++ padN (d.na ++ [0])).length % 4 = 0 := by
    rw [List.length_append, padN_len]
    have := (upN_le (d.na ++ [0]).length).2.2
    omega
  rw [padN_app h2]
  unfold encN
  simp only [List.append_assoc]


set_option maxRecDepth 100000 in
set_option maxHeartbeats 1600000 in
theorem rput8_bytes (B : Nat) (a : Option Addr) (len cap : Nat) (L : List Nt) (w : World) (hs : Nt.Sl w B a len L) (hB : B ≤ w.heap.size) (hl : len ≤ 1000000) (hc : ∀ i, i < len → NoZ (bs (L.getD i Nt.zero).na)) (hF : (flatN (L.map Nt.nd)).length ≤ 900000) :
    Calls Try.prog 12 #[.slice a len cap] w fun e w' => ((65536 < (flatN (L.map Nt.nd)).length ∧ e = .returned (.tuple #[.slice none 0 0, .int .i64 13])) ∨
      ((flatN (L.map Nt.nd)).length ≤ 65536 ∧ ∃ u, e = .returned (.tuple #[u, .int .i64 0]) ∧ Rw w.heap.size w' u (flatN (L.map Nt.nd)))) ∧ Below w.heap.size w w' := by
  obtain ⟨i0, hi, hz0, hz1, hz2⟩ := info_parts info_u8
  have hli : (len : Int) ≤ 1000000 := by omega
  have HC := Lib.hid hc
  have HS := Lib.hid hs
  have HI := Lib.hid hi
  have HZ0 := Lib.hid hz0
  have HZ1 := Lib.hid hz1
  have HZ2 := Lib.hid hz2
  have HSZ : Hid (∀ i, i < len → (L.getD i Nt.zero).na.size ≤ maxLen) := Lib.hid fun i hi => (hs.okAt hi).na
  have HL : Hid (L.length = len) := Lib.hid hs.hl
  have HFB := Lib.hid hF
  clear hi hz0 hz1 hz2 hs hc hF
  go_enter Try.func12, Try.ntmps12
  go_wp2
  go_loop [5] (fun i => ∃ k : Nat, k ≤ len ∧ i = .int .i64 k) (fun i => len - (intOf i).toNat)
  case atStart => exact ⟨0, Nat.zero_le _, rfl⟩
  case round =>
    obtain ⟨k, hk, rfl⟩ := hrel
    by_cases hlt : k < len
    · obtain ⟨b, off, rfl, hbB, hcell⟩ := HS.out.hc (by omega)
      obtain ⟨s, hsn⟩ : ∃ s, s = (L.getD k Nt.zero).na := ⟨_, rfl⟩
      have hc : w.cell? ⟨b, off + k * 3, none⟩ = some (.string s) := hsn ▸ (hcell k hlt).c0
      have hss : (s.size : Int) ≤ 9223372036854775807 := by have := HSZ.out k hlt; rw [hsn]; unfold maxLen at this; omega
      have HNZ : Hid (NoZ (bs s)) := Lib.hid (hsn ▸ HC.out k hlt)
      clear hsn hcell
      go_wp2
      go_loop [6] (fun i => ∃ j : Nat, j ≤ s.size ∧ i = .int .i64 j) (fun i => s.size - (intOf i).toNat)
      case atStart => exact ⟨0, Nat.zero_le _, rfl⟩
      case round =>
        obtain ⟨j, hj, rfl⟩ := hrel
        by_cases hjs : j < s.size
        · have hne := byte_ne hjs (HNZ.out j (by rw [bs_len]; exact hjs))
          go_wp2
          go_round
          case rel => exact ⟨j + 1, by omega, by go_num⟩
          case measure => simp [intOf]; omega
        · obtain rfl : j = s.size := by omega
          go_wp2
          go_round
          case rel => exact ⟨k + 1, by omega, by go_num⟩
          case measure => simp [intOf]; omega
    · obtain rfl : k = len := by omega
      have HO0 : Hid (Rw w.heap.size w (.slice none 0 0) (firstN L 0)) := Lib.hid (World.ownsRow_nil _ _ _ _)
      go_wp2
      go_loopw [4, 7] (fun v i wr => ∃ q : Nat, q ≤ k ∧ i = .int .i64 q ∧ Rw w.heap.size wr v (firstN L q) ∧ Below w.heap.size w wr) (fun _ i _ => k - (intOf i).toNat)
      case atStart => exact ⟨0, Nat.zero_le _, rfl, HO0.out, Below.refl _ _⟩
      case round =>
        obtain ⟨q, hq, rfl, hown, hbel⟩ := hrel
        have HO := Lib.hid hown
        have HB := Lib.hid hbel
        clear hown hbel HO0
        by_cases hlt : q < k
        · obtain ⟨b, off, rfl, hbB, hcell⟩ := HS.out.hc (by omega)
          have hF1 := firstN_le L (q + 1)
          have HEN : Hid (firstN L (q + 1) = firstN L q ++ encN (L.getD q Nt.zero).nd) := Lib.hid (firstN_succ (by rw [HL.out]; exact hlt))
          have hF0 := firstN_mod L q
          have hat : Hid (∀ w', Below w.heap.size w w' → Nt.At w' b (off + q * 3) (L.getD q Nt.zero) ∧ (L.getD q Nt.zero).de.Ok w' B) := Lib.hid fun w' hb =>
            ⟨(hcell q hlt).below (hb.mono hB) hbB, (HS.out.okAt hlt).de.below (hb.mono hB)⟩
          have hty := (HS.out.okAt hlt).ty
          clear hcell
          have HENC : Hid (firstN L q ++ encN (L.getD q Nt.zero).nd = _) := Lib.hid (enc_parts (firstN L q) (L.getD q Nt.zero).nd hF0)
          rw [HEN.out, List.length_append, encN_len] at hF1
          obtain ⟨s, hsn⟩ : ∃ s, L.getD q Nt.zero = s := ⟨_, rfl⟩
          obtain ⟨F, hFe⟩ : ∃ F, firstN L q = F := ⟨_, rfl⟩
          rw [hsn] at hat hty HENC hF1 HEN
          rw [hFe] at HENC hF1 HEN HO hF0
          obtain ⟨na, ty, de⟩ := s
          have hnl : (bs na).length = na.size := bs_len na
          have hdl : de.zs.length = de.n := (hat.out wr HB.out).2.bys.1
          simp only [Nt.nd, hnl, hdl] at hat hty HENC hF1 HEN
          have hF9 := Nat.le_trans hF1 HFB.out
          rw [show ((na.size + 1 : Nat) : Int) = (na.size : Int) + 1 by omega] at HENC
          have hu1 := (upN_le (na.size + 1)).1
          have hu2 := (upN_le de.n).1
          have hns : (na.size : Int) ≤ 1000000 := by omega
          have hds : (de.n : Int) ≤ 1000000 := by omega
          obtain ⟨ty0, ty1⟩ := hty
          clear hsn hFe hF1
          obtain ⟨⟨c0, c1, c2⟩, hde⟩ := hat.out wr HB.out
          simp only at c0 c1 c2
          clear hde
          go_wp2_with fail
          have HO0 := HO
          have HB0 := HB
          have HL0 : Hid (F.length = F.length + 0) := Lib.hid rfl
          refine (four8_r w.heap.size _ F ((na.size : Int) + 1) _ HO0.out HB0.out.size (by rw [HL0.out]; omega) (by omega) (by omega)).mono ?_
          rintro r w1 ⟨v1, rfl, ho, hb⟩
          have HO1 := Lib.hid ho
          have HB1 := Lib.hid (HB0.out.trans hb)
          have HL1 : Hid ((F ++ digs ((na.size : Int) + 1) 4).length = F.length + 4) := Lib.hid (by rw [List.length_append, HL0.out, digs_len])
          clear ho hb c0 c1 c2
          obtain ⟨⟨c0, c1, c2⟩, hde⟩ := hat.out w1 HB1.out
          simp only at c0 c1 c2 hde
          clear hde
          go_wp2_with fail
          refine (four8_r w.heap.size _ (F ++ digs ((na.size : Int) + 1) 4) ((de.n : Int)) _ HO1.out HB1.out.size (by rw [HL1.out]; omega) (by omega) (by omega)).mono ?_
          rintro r w2 ⟨v2, rfl, ho, hb⟩
          have HO2 := Lib.hid ho
          have HB2 := Lib.hid (HB1.out.trans hb)
          have HL2 : Hid (((F ++ digs ((na.size : Int) + 1) 4) ++ digs ((de.n : Int)) 4).length = F.length + 8) := Lib.hid (by rw [List.length_append, HL1.out, digs_len])
          clear ho hb c0 c1 c2
          obtain ⟨⟨c0, c1, c2⟩, hde⟩ := hat.out w2 HB2.out
          simp only at c0 c1 c2 hde
          clear hde
          go_wp2_with fail
          refine (four8_r w.heap.size _ ((F ++ digs ((na.size : Int) + 1) 4) ++ digs (de.n : Int) 4) (ty) _ HO2.out HB2.out.size (by rw [HL2.out]; omega) (by omega) (by omega)).mono ?_
          rintro r w3 ⟨v3, rfl, ho, hb⟩
          have HO3 := Lib.hid ho
          have HB3 := Lib.hid (HB2.out.trans hb)
          have HL3 : Hid ((((F ++ digs ((na.size : Int) + 1) 4) ++ digs (de.n : Int) 4) ++ digs (ty) 4).length = F.length + 12) := Lib.hid (by rw [List.length_append, HL2.out, digs_len])
          clear ho hb c0 c1 c2
          obtain ⟨⟨c0, c1, c2⟩, hde⟩ := hat.out w3 HB3.out
          simp only at c0 c1 c2 hde
          clear hde
          obtain ⟨G, hG⟩ : ∃ G, (((F ++ digs ((na.size : Int) + 1) 4) ++ digs (de.n : Int) 4) ++ digs ty 4) = G := ⟨_, rfl⟩
          rw [hG] at HO3 HL3 HENC
          go_wp2_with (at_builtin; refine Lib.wpList_append_own_string _ rfl _ _ 25 9 rfl w.heap.size 5 i0 Try.underlying25 Try.underlying9 HI.out HZ0.out HZ1.out HZ2.out _ G.length _ rfl HO3.out na rfl ?c1 ?c2 ?c3 ?_)
          case c1 => rw [HL3.out]; unfold maxLen; omega
          case c2 => rw [HL3.out]; omega
          case c3 => exact HB3.out.size
          intro v4 w4 hv4 hg4 hnil4
          rw [bs_cells, ← List.map_append] at hv4
          have HB4 : Hid (Below w.heap.size w w4) := Lib.hid (HB3.out.grown hg4 HB3.out.size (fun q e => (HO3.out.lt q e).1))
          have HO4 : Hid (Rw w.heap.size w4 v4 (G ++ bs na)) := Lib.hid (by unfold Rw; rw [List.length_append, hnl]; exact hv4)
          have HL4 : Hid ((G ++ bs na).length = F.length + 12 + na.size) := Lib.hid (by rw [List.length_append, HL3.out, hnl])
          clear hv4 hg4 hnil4 c0 c1 c2
          go_wp2_with (at_builtin; refine wpList_append_own _ rfl _ _ 25 rfl w.heap.size 5 i0 (.int .u8 0) 1 1 Try.underlying25 HI.out HZ0.out HZ1.out HZ2.out rfl (by decide) _ (G ++ bs na).length _ rfl (HO4.out.alloc _) ⟨w4.heap.size, 0, none⟩ 1 1 [.int .u8 0] rfl rfl ?d1 ?d2 ?d3 ?d4 ?d5 ?_)
          case d1 => exact cell_one_new _ _ _
          case d2 => intro u hu; obtain rfl := List.mem_singleton.1 hu; rfl
          case d3 => rw [HL4.out]; unfold maxLen; omega
          case d4 => rw [HL4.out]; omega
          case d5 => have := HB4.out.size; simp; omega
          intro v5 w5 hv5 hg5 hnil5
          have HB5 : Hid (Below w.heap.size w w5) := Lib.hid ((HB4.out.alloc HB4.out.size _).grown hg5 (by have := HB4.out.size; simp; omega) (fun q e => (HO4.out.lt q e).1))
          have HO5 : Hid (Rw w.heap.size w5 v5 (G ++ bs na ++ [0])) := Lib.hid (by unfold Rw; rw [List.length_append, List.length_append, hnl]; simp only [List.map_append, List.append_assoc, List.map_cons, List.map_nil]; exact hv5)
          have HL5 : Hid ((G ++ bs na ++ [0]).length = F.length + 12 + na.size + 1) := Lib.hid (by rw [List.length_append, HL4.out]; rfl)
          clear hv5 hg5 hnil5
          go_wp2_with fail
          refine (padded8_r w.heap.size _ (G ++ bs na ++ [0]) _ HO5.out HB5.out.size (by rw [HL5.out]; omega)).mono ?_
          rintro r w6 ⟨v6, rfl, ho, hb⟩
          have HO6 := Lib.hid ho
          have HB6 := Lib.hid (HB5.out.trans hb)
          have HL6 : Hid ((padN (G ++ bs na ++ [0])).length = F.length + 12 + upN (na.size + 1)) := Lib.hid (by
            rw [padN_len, HL5.out, show F.length + 12 + na.size + 1 = (F.length + 12) + (na.size + 1) by omega, upN_add (by omega)])
          clear ho hb
          obtain ⟨⟨c0, c1, c2⟩, hde⟩ := hat.out w6 HB6.out
          simp only at c0 c1 c2 hde
          have hdn : de.n ≤ de.c := hde.le
          have HDE := Lib.hid hde
          clear hde
          go_wp2_with (at_builtin; refine wpList_append_bys rfl _ _ 25 rfl w.heap.size 5 i0 (.int .u8 0) 1 Try.underlying25 HI.out HZ0.out HZ1.out HZ2.out rfl _ (padN (G ++ bs na ++ [0])).length _ rfl HO6.out _ de.n de.c _ de.zs rfl HDE.out.bys HDE.out.nil ?e1 ?e2 ?e3 ?_)
          case e1 => rw [HL6.out]; unfold maxLen; omega
          case e2 => rw [HL6.out]; omega
          case e3 => exact HB6.out.size
          intro v7 w7 hv7 hg7
          have HB7 : Hid (Below w.heap.size w w7) := Lib.hid (HB6.out.grown hg7 HB6.out.size (fun q e => (HO6.out.lt q e).1))
          have HO7 : Hid (Rw w.heap.size w7 v7 (padN (G ++ bs na ++ [0]) ++ de.zs)) := Lib.hid (by unfold Rw; rw [List.length_append, hdl, List.map_append, List.append_assoc G]; exact hv7)
          have HL7 : Hid ((padN (G ++ bs na ++ [0]) ++ de.zs).length = F.length + 12 + upN (na.size + 1) + de.n) := Lib.hid (by rw [List.length_append, HL6.out, hdl])
          clear hv7 hg7 c0 c1 c2
          go_wp2_with fail
          refine (padded8_r w.heap.size _ (padN (G ++ bs na ++ [0]) ++ de.zs) _ HO7.out HB7.out.size (by rw [HL7.out]; omega)).mono ?_
          rintro r w8 ⟨v8, rfl, ho, hb⟩
          have HO8 : Hid (Rw w.heap.size w8 v8 (firstN L (q + 1))) := Lib.hid (by
            rw [HEN.out, HENC.out]; exact ho)
          have HB8 := Lib.hid (HB7.out.trans hb)
          clear ho hb
          go_wp2
          go_roundw
          case rel => exact ⟨q + 1, by omega, by go_num, HO8.out, HB8.out⟩
          case measure => simp [intOf]; omega
        · obtain rfl : q = k := by omega
          rw [← HL.out, firstN_all] at HO
          obtain ⟨va, vc, rfl⟩ := own_slice HO.out
          have hzb := HFB.out
          have hzi : ((flatN (L.map Nt.nd)).length : Int) ≤ 900000 := by omega
          by_cases hbig : 65536 < (flatN (L.map Nt.nd)).length
          · go_wp2
            go_ret2
            exact ⟨.inl ⟨hbig, rfl⟩, HB.out⟩
          · go_wp2
            go_ret2
            exact ⟨.inr ⟨by omega, _, rfl, HO.out⟩, HB.out⟩

/-- What Put makes of notes: the bytes, in new memory, and the error. -/
def PutPost (Z : Int × List Int) (w : World) (e : Ending) (w' : World) : Prop :=
  (∃ u, e = .returned (.tuple #[u, .int .i64 Z.1]) ∧ Rw w.heap.size w' u Z.2) ∧ Below w.heap.size w w'
theorem rput8_any (B : Nat) (a : Option Addr) (len cap : Nat) (L : List Nt) (w : World) (hs : Nt.Sl w B a len L) (hB : B ≤ w.heap.size) (hl : len ≤ 1000000) (hF : (flatN (L.map Nt.nd)).length ≤ 900000) :
    Calls Try.prog 12 #[.slice a len cap] w (PutPost (putN (L.map Nt.nd)) w) := by
  have hle := hs.hl
  rcases zeros_or L with ⟨hz, hany⟩ | ⟨n, m, hn, hz, hm, hany⟩
  · refine (rput8_bytes B a len cap L w hs hB hl (fun i hi => hz i (by omega)) hF).mono ?_
    rintro e w' ⟨⟨hb, rfl⟩ | ⟨hb, u, rfl, hu⟩, hbel⟩
    · unfold putN
      rw [hany, if_neg (by decide), if_pos hb]
      exact ⟨⟨_, rfl, World.ownsRow_nil _ _ _ _⟩, hbel⟩
    · unfold putN
      rw [hany, if_neg (by decide), if_neg (by omega)]
      exact ⟨⟨_, rfl, hu⟩, hbel⟩
  · refine (rput8_arg B a len cap L w n m hs (by omega) (by omega) hz hm).mono ?_
    rintro e w' ⟨rfl, rfl⟩
    unfold putN
    rw [hany, if_pos rfl]
    exact ⟨⟨_, rfl, World.ownsRow_nil _ _ _ _⟩, Below.refl _ _⟩
end Go.Proofs.Ytkgakdlalmmdiaa
