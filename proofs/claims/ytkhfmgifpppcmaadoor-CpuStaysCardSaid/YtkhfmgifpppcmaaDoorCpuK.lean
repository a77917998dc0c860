/-
  What is proved here: the law's code: words as bytes.
  Conditions: at most 64 words.
-/
import Derived.Test.YtkhfmgifpppcmaaDoorU64
import Derived.Test.YtkhfmgifpppcmaaDoorNum
import Derived.Test.YtkhfmgifpppcmaaDoorVmFind
import Derived.Laws.AppendOwn
namespace Go.Proofs.YtkhfmgifpppcmaaDoor
open Go.RowKit
set_option linter.unusedVariables false
set_option linter.unusedSimpArgs false

/-- Words as bytes. -/
def codeB : List Int → List Int
  | [] => []
  | u :: r => digs u 8 ++ codeB r
theorem codeB_len : ∀ L : List Int, (codeB L).length = 8 * L.length
  | [] => rfl
  | u :: r => by
    show (digs u 8 ++ codeB r).length = _
    rw [List.length_append, digs_len, codeB_len r, List.length_cons]; omega
theorem codeB_bd : ∀ L : List Int, ∀ z ∈ codeB L, 0 ≤ z ∧ z ≤ 255
  | [], z, h => by cases h
  | u :: r, z, h => by
    rcases List.mem_append.1 (show z ∈ digs u 8 ++ codeB r from h) with h | h
    · exact digs_bd u 8 z h
    · exact codeB_bd r z h
theorem codeB_app : ∀ L N : List Int, codeB (L ++ N) = codeB L ++ codeB N
  | [], N => rfl
  | u :: r, N => by
    show digs u 8 ++ codeB (r ++ N) = (digs u 8 ++ codeB r) ++ codeB N
    rw [codeB_app r N, List.append_assoc]
theorem codeB_snoc (L : List Int) (u : Int) : codeB (L ++ [u]) = codeB L ++ digs u 8 := by
  rw [codeB_app]
  show codeB L ++ (digs u 8 ++ []) = _
  rw [List.append_nil]
set_option maxHeartbeats 6400000 in
set_option maxRecDepth 100000 in
theorem code_ok {w : World} {a : Option Addr} {n c : Nat} {L : List Int} (h : Nus w w.heap.size a n L) (hn : n ≤ 64) :
    Calls Tryd.prog 8 #[.slice a n c] w fun r w' => ∃ v, r = .returned v ∧ w'.ownsRow w.heap.size 5 1 v (8 * n) ((codeB L).map (Value.int .u8)) ∧ Below w.heap.size w w' := by
  have HH := Lib.hid h
  have hl := h.hl
  have HLN := Lib.hid hl
  obtain ⟨i0, hi, hz0, hz1, hz2⟩ := info_parts info_u8
  have HI := Lib.hid hi
  have HZ0 := Lib.hid hz0
  have HZ1 := Lib.hid hz1
  have HZ2 := Lib.hid hz2
  clear hi hz0 hz1 hz2 h hl
  go_enter Tryd.func8, Tryd.ntmps8
  go_wp2
  go_loopw [3, 4] (fun v i wr => ∃ k : Nat, k ≤ n ∧ i = .int .i64 k ∧ Hid (wr.ownsRow w.heap.size 5 1 v (8 * k) ((codeB (L.take k)).map (Value.int .u8))) ∧ Hid (Below w.heap.size w wr)) (fun _ i _ => n - (intOf i).toNat)
  case atStart => exact ⟨0, Nat.zero_le _, by go_num, Lib.hid (World.ownsRow_nil _ _ _ _), Lib.hid (Below.refl _ _)⟩
  case round =>
    obtain ⟨k, hk, rfl, HO, HBW⟩ := hrel
    obtain ⟨la, lc, rfl⟩ := own_slp HO.out
    by_cases hlt : k < n
    · have hlti : (k : Int) < n := by omega
      obtain ⟨b, off, rfl, hbB, hcell⟩ := HH.out.hc (by omega)
      have hub := HH.out.at hlt
      have hck := hcell k hlt
      obtain ⟨u, hu⟩ : ∃ u, L.getD k 0 = u := ⟨_, rfl⟩
      rw [hu] at hck hub
      have htk : codeB (L.take (k + 1)) = codeB (L.take k) ++ digs u 8 := by
        have hkL : k < L.length := by rw [HLN.out]; exact hlt
        rw [List.take_succ_eq_append_getElem hkL, codeB_snoc, ← hu, List.getD_eq_getElem?_getD, List.getElem?_eq_getElem hkL]; rfl
      have HTK := Lib.hid htk
      have HCK : Hid (∀ wx, Below w.heap.size w wx → wx.cell? ⟨b, off + k, none⟩ = some (.int .u64 u)) := Lib.hid (fun wx hb => (hb.cell (p := ⟨b, off + k, none⟩) hbB).trans hck)
      have HUB := Lib.hid hub
      have HLT := Lib.hid hlt
      obtain ⟨C, hC⟩ : ∃ C, codeB (L.take k) = C := ⟨_, rfl⟩
      rw [hC] at HO HTK
      clear hcell hck hu hub htk hlt hk hbB hC
      obtain ⟨wo, hwo⟩ : ∃ wo : World, wo = wr := ⟨_, rfl⟩
      subst hwo
      go_wp2
      go_loopw [3, 5] (fun v i wr => ∃ j : Nat, j ≤ 8 ∧ i = .int .i64 j ∧ Hid (wr.ownsRow w.heap.size 5 1 v (8 * k + j) ((C ++ digs u j).map (Value.int .u8))) ∧ Hid (Below w.heap.size w wr)) (fun _ i _ => 8 - (intOf i).toNat)
      case atStart => exact ⟨0, Nat.zero_le _, by go_num, Lib.hid (by show World.ownsRow _ _ _ _ _ _ ((C ++ []).map _); rw [List.append_nil]; exact HO.out), HBW⟩
      case round =>
        obtain ⟨j, hj, rfl, HOJ, HBJ⟩ := hrel
        obtain ⟨ja, jc, rfl⟩ := own_slp HOJ.out
        by_cases hj8 : j < 8
        · have hj8i : (j : Int) < 8 := by omega
          have hck := HCK.out _ HBJ.out
          have hsz := HBJ.out.size
          have hw8 : IntKind.u64.wrap ((8 : Int) * (j : Int)) = ((8 * j : Nat) : Int) := by rw [IntKind.wrap_u64]; omega
          have hsb := shr_byte u j
          obtain ⟨y, hy⟩ : ∃ y, u / 2 ^ (8 * j) = y := ⟨_, rfl⟩
          rw [hy] at hsb
          have hdg : (C ++ digs u (j + 1)) = (C ++ digs u j) ++ [y % 256] := by
            rw [hsb, List.append_assoc]; rfl
          have HDG := Lib.hid hdg
          have HJ8 := Lib.hid hj8
          have HY := Lib.hid hy
          have hub := HUB.out
          have hy0 : 0 ≤ y := by rw [← hy]; exact Int.ediv_nonneg hub.1 (Int.pow_nonneg (by decide))
          have hwy : IntKind.u8.wrap y = y % 256 := by rw [IntKind.wrap_u8]
          clear hsb hdg hj8 hj
          go_wp2_with (at_builtin; refine wpList_append_own _ rfl _ _ 32 rfl w.heap.size 5 i0 (.int .u8 0) 1 1 Tryd.underlying32 HI.out HZ0.out HZ1.out HZ2.out rfl (by decide) _ (8 * k + j) ((C ++ digs u j).map (Value.int .u8)) rfl (HOJ.out.alloc _) ⟨wr.heap.size, 0, none⟩ 1 1 [.int .u8 (y % 256)] rfl rfl ?c1 ?c2 ?c3 ?c4 ?c5 ?_)
          case c1 => exact cell_one_new _ _ _
          case c2 => intro u hu; obtain rfl := List.mem_singleton.1 hu; rfl
          case c3 => unfold maxLen; have := HLT.out; have := HJ8.out; omega
          case c4 => have := HLT.out; have := HJ8.out; omega
          case c5 => simp; omega
          intro v' w3 hown3 hg3 _
          have HB3 : Hid (Below w.heap.size w w3) := Lib.hid ((HBJ.out.alloc HBJ.out.size _).grown hg3 (by simp; omega) (fun q e => (HOJ.out.lt q e).1))
          have HO3 : Hid (w3.ownsRow w.heap.size 5 1 v' (8 * k + (j + 1)) ((C ++ digs u (j + 1)).map (Value.int .u8))) := Lib.hid (by
            rw [HDG.out, List.map_append, List.map_append, List.append_assoc]; exact hown3)
          clear hown3 hg3
          go_wp2
          go_roundw
          case rel => exact ⟨j + 1, HJ8.out, by go_num, HO3, HB3⟩
          case measure => have := HJ8.out; simp [intOf]; omega
        · have hj8i : ¬ (j : Int) < 8 := by omega
          obtain rfl : j = 8 := by omega
          have HO3 : Hid (wr.ownsRow w.heap.size 5 1 (.slice ja (8 * k + 8) jc) (8 * (k + 1)) ((codeB (L.take (k + 1))).map (Value.int .u8))) := Lib.hid (by rw [HTK.out]; exact HOJ.out)
          go_wp2
          go_roundw
          case rel => exact ⟨k + 1, HLT.out, by go_num, HO3, HBJ⟩
          case measure => have := HLT.out; simp [intOf]; omega
    · have hlti : ¬ (k : Int) < n := by omega
      obtain rfl : k = n := by omega
      have HE : Hid (L.take k = L) := Lib.hid (List.take_of_length_le (by rw [HLN.out]; exact Nat.le_refl _))
      go_wp2
      go_ret
      have ho := HO.out
      rw [HE.out] at ho
      exact ⟨_, rfl, ho, HBW.out⟩
end Go.Proofs.YtkhfmgifpppcmaaDoor
