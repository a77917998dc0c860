/-
  What is proved here: the closure of package notes' Get that takes the next bytes, in new memory; takePadded: so many bytes with their padding.
  Conditions: slices of at most 2^47 bytes.
-/
import Derived.Test.YtkgakdlalmmdiaaNotSmall
namespace Go.Proofs.Ytkgakdlalmmdiaa
open Go.RowKit
set_option linter.unusedVariables false
set_option linter.unusedSimpArgs false

theorem Blk.set {w : World} {g : Nat} {C : Array Value} {t : TypeId} (h : Blk w g C t) (i : Nat) (u : Value) : Blk (w.setCell ⟨g, i, none⟩ u) g (C.setIfInBounds i u) t := by
  unfold Blk at *
  simp [World.setCell, h, Array.getElem?_modify]
/-- Two blocks of different types are two. -/
theorem Blk.ne {w : World} {g g' : Nat} {C C' : Array Value} {t t' : TypeId} (h : Blk w g C t) (h' : Blk w g' C' t') (ht : t ≠ t') : g ≠ g' := by
  rintro rfl
  unfold Blk at h h'
  rw [h] at h'
  injection h' with h'
  injection h' with _ h'
  exact ht h'
theorem grow_trans {w w' w'' : World} {r : Option Nat} (h : w.grownBy w' r) (h' : w'.grownBy w'' r) : w.grownBy w'' r :=
  ⟨h'.os.trans h.os, h'.tape.trans h.tape, h'.output.trans h.output, Nat.le_trans h.size h'.size, fun k hk hr => (h'.block k (Nat.lt_of_lt_of_le hk h.size) hr).trans (h.block k hk hr)⟩
theorem grow_below {w w' : World} {r : Option Nat} (h : Below w.heap.size w w') : w.grownBy w' r := ⟨h.os, h.tape, h.output, h.size, fun k hk _ => h.block k hk⟩
theorem grow_set (w : World) (g : Nat) (u : Value) : w.grownBy (w.setCell ⟨g, 0, none⟩ u) (some g) :=
  ⟨rfl, rfl, rfl, by simp, fun k hk hr => Below.heap_setCell _ _ _ _ (fun e => hr (by rw [e]))⟩
/-- Block g holds bytes; these are the first of them. -/
def R8 (w : World) (g : Nat) (zs : List Int) : Prop := ∃ C : Array Value, Blk w g C 5 ∧ C.toList.take zs.length = zs.map (Value.int .u8)
theorem R8.grown {w w' : World} {g : Nat} {zs : List Int} {r : Option Nat} (h : R8 w g zs) (hg : w.grownBy w' r) (hr : some g ≠ r) : R8 w' g zs := by
  obtain ⟨C, h1, h2⟩ := h
  exact ⟨C, h1.grown hg hr, h2⟩
theorem R8.lt {w : World} {g : Nat} {zs : List Int} (h : R8 w g zs) : g < w.heap.size := by
  obtain ⟨C, h1, h2⟩ := h
  exact h1.lt
theorem R8.ne {w : World} {g g' : Nat} {zs : List Int} {C : Array Value} {t : TypeId} (h : R8 w g zs) (h' : Blk w g' C t) (ht : 5 ≠ t) : g ≠ g' := by
  obtain ⟨C, h1, h2⟩ := h
  exact h1.ne h' ht
theorem R8.pre {w : World} {g : Nat} {zs : List Int} (h : R8 w g zs) (n : Nat) : R8 w g (zs.take n) := by
  obtain ⟨C, h1, h2⟩ := h
  refine ⟨C, h1, ?_⟩
  rw [List.map_take, ← h2, List.take_take, List.length_take]
theorem R8.of_own {w : World} {base g n c : Nat} {zs : List Int} (h : w.ownsRow base 5 1 (.slice (some ⟨g, 0, none⟩) n c) n (zs.map (Value.int .u8))) : R8 w g zs := by
  obtain ⟨hl, ⟨hv, _⟩ | ⟨g', cap, cur, hv, _, hg, _, _, _, htake⟩⟩ := h
  · cases hv
  · injection hv with hv _ _
    injection hv with hv
    injection hv with hv
    subst hv
    refine ⟨cur, hg, ?_⟩
    rw [List.length_map] at hl
    rw [← htake, hl]
theorem R8.bys {w : World} {g : Nat} {zs : List Int} (h : R8 w g zs) (hb : ∀ n ∈ zs, 0 ≤ n ∧ n ≤ 255) : Bys w w.heap.size (some ⟨g, 0, none⟩) zs.length zs := by
  obtain ⟨C, h1, h2⟩ := h
  refine ⟨rfl, hb, fun _ => ⟨g, 0, rfl, h1.lt, fun i hi => ?_⟩⟩
  rw [Nat.zero_add, h1.cell, ← Array.getElem?_toList]
  have := congrArg (fun l : List Value => l[i]?) h2
  simp only [List.getElem?_map, List.getElem?_take] at this
  rw [if_pos hi] at this
  rw [this, List.getD_eq_getElem?_getD, List.getElem?_eq_getElem hi]
  rfl
/-- The closure's box holds the bytes that are left. -/
def Tk (w : World) (B gb : Nat) (zs : List Int) : Prop := ∃ b off c, b < B ∧ Blk w gb #[.slice (some ⟨b, off, none⟩) zs.length c] 25 ∧ Bys w B (some ⟨b, off, none⟩) zs.length zs ∧ zs.length ≤ c ∧ (c : Int) ≤ 9223372036854775807
theorem piece_zero' (zs : List Int) (n : Nat) : piece zs 0 n = zs.take n := by simp [piece]

set_option maxRecDepth 100000 in
set_option maxHeartbeats 800000 in
theorem ntake_range (B gb : Nat) (zs : List Int) (n : Nat) (w : World) (h : Tk w B gb zs) (hl : zs.length ≤ 65536) (hn : n ≤ 1000000000000) (hs : zs.length < n) :
    Calls Try.prog 23 #[.int .u64 n, .pointer (some ⟨gb, 0, none⟩)] w fun r w' => r = .returned (.tuple #[.slice none 0 0, .int .i64 10]) ∧ w = w' := by
  obtain ⟨b, off, c, hb, hbox, hby, hc, hcm⟩ := h
  have c0 := hbox.cell 0
  have HR := Lib.hid (cut_range (some ⟨b, off, none⟩) zs.length c 0 n w (by omega) (by omega) (by omega) (by omega) (by omega) (by omega))
  clear hbox hby
  go_enter Try.func23, Try.ntmps23
  go_wp2_with fail
  refine HR.out.mono ?_
  rintro r w1 ⟨rfl, rfl⟩
  go_wp2
  go_ret2
  exact ⟨rfl, rfl⟩
set_option maxRecDepth 100000 in
set_option maxHeartbeats 1600000 in
theorem ntake_ok (B gb : Nat) (zs : List Int) (n : Nat) (w : World) (h : Tk w B gb zs) (hB : B ≤ gb) (hl : zs.length ≤ 65536) (hs : n ≤ zs.length) :
    Calls Try.prog 23 #[.int .u64 n, .pointer (some ⟨gb, 0, none⟩)] w fun r w' => r = .returned (.tuple #[.slice (some ⟨w.heap.size, 0, none⟩) n n, .int .i64 0]) ∧ R8 w' w.heap.size (zs.take n) ∧ Tk w' B gb (zs.drop n) ∧ w.grownBy w' (some gb) := by
  obtain ⟨b, off, c, hb, hbox, hby, hc, hcm⟩ := h
  have c0 := hbox.cell 0
  have hgl := hbox.lt
  have HR := Lib.hid (cut_ok B (some ⟨b, off, none⟩) zs.length c zs 0 n w hby (by omega) hc hcm (by omega) (by omega))
  rw [piece_zero'] at HR
  have HBX := Lib.hid hbox
  have HBY := Lib.hid hby
  have HDL : Hid ((zs.drop n).length = zs.length - n) := Lib.hid (List.length_drop)
  have HPD : Hid (piece zs n (zs.length - n) = zs.drop n) := Lib.hid (by unfold piece; rw [List.take_of_length_le (by rw [List.length_drop]; exact Nat.le_refl _)])
  have hbd := hby.2.1
  have HBD := Lib.hid hbd
  obtain ⟨len, hlen⟩ : ∃ len, zs.length = len := ⟨_, rfl⟩
  rw [hlen] at hl hs hc HR HBX HBY HDL HPD c0
  have hsi : (n : Int) ≤ len := by omega
  have hci : (len : Int) ≤ c := by omega
  clear hbox hby hbd hlen
  by_cases hce : c = n
  · subst hce
    obtain rfl : len = c := by omega
    go_enter Try.func23, Try.ntmps23
    go_wp2_with fail
    refine HR.out.mono ?_
    rintro r w1 ⟨rfl, hown, hbel⟩
    have hbx1 := HBX.out.later hbel
    obtain ⟨d0, f0⟩ : w1.cell? ⟨gb, 0, none⟩ = some (.slice (some ⟨b, off, none⟩) len len) ∧ w1.frozen? ⟨gb, 0, none⟩ = false := ⟨hbx1.cell 0, hbx1.frozen 0⟩
    have HK := Lib.hid (hbx1.set 0 (.slice (some ⟨b, off, none⟩) 0 0))
    have HO := Lib.hid (R8.of_own (ownsRow_setCell_below hown (a := ⟨gb, 0, none⟩) hgl (.slice (some ⟨b, off, none⟩) 0 0)))
    have HG := Lib.hid (grow_trans (grow_below (r := some gb) hbel) (grow_set w1 gb (.slice (some ⟨b, off, none⟩) 0 0)))
    clear hown hbel hbx1
    go_wp2
    go_ret2
    exact ⟨rfl, HO.out, ⟨b, off, 0, hb, by rw [HDL.out, Nat.sub_self]; exact HK.out, by rw [HDL.out, Nat.sub_self, List.eq_nil_of_length_eq_zero (HDL.out.trans (Nat.sub_self _))]; exact Bys.empty _ _ _, by rw [HDL.out]; omega, by omega⟩, HG.out⟩
  · have hce2 : ¬ c - n = 0 := by omega
    go_enter Try.func23, Try.ntmps23
    go_wp2_with fail
    refine HR.out.mono ?_
    rintro r w1 ⟨rfl, hown, hbel⟩
    have hbx1 := HBX.out.later hbel
    obtain ⟨d0, f0⟩ : w1.cell? ⟨gb, 0, none⟩ = some (.slice (some ⟨b, off, none⟩) len c) ∧ w1.frozen? ⟨gb, 0, none⟩ = false := ⟨hbx1.cell 0, hbx1.frozen 0⟩
    have HK := Lib.hid (hbx1.set 0 (.slice (some ⟨b, off + n, none⟩) (len - n) (c - n)))
    have HO := Lib.hid (R8.of_own (ownsRow_setCell_below hown (a := ⟨gb, 0, none⟩) hgl (.slice (some ⟨b, off + n, none⟩) (len - n) (c - n))))
    have HG := Lib.hid (grow_trans (grow_below (r := some gb) hbel) (grow_set w1 gb (.slice (some ⟨b, off + n, none⟩) (len - n) (c - n))))
    have HBE : Hid (Below B w (w1.setCell ⟨gb, 0, none⟩ (.slice (some ⟨b, off + n, none⟩) (len - n) (c - n)))) := Lib.hid ((hbel.mono (by omega)).setCell hB _)
    clear hown hbel hbx1
    go_wp2
    go_ret2
    refine ⟨rfl, HO.out, ⟨b, off + n, c - n, hb, by rw [HDL.out]; exact HK.out, ?_, by rw [HDL.out]; omega, by omega⟩, HG.out⟩
    rw [HDL.out, ← HPD.out]
    exact (HBY.out.below HBE.out).sub (by omega)
/-! ### takePadded -/
/-- The closure as a value. -/
def tkV (gb : Nat) : Value := .func (.func 23) #[] #[.pointer (some ⟨gb, 0, none⟩)]
theorem getD_take {zs : List Int} {u i : Nat} (h : i < u) : (zs.take u).getD i 0 = zs.getD i 0 := by
  rw [List.getD_eq_getElem?_getD, List.getD_eq_getElem?_getD, List.getElem?_take, if_pos h]
set_option maxRecDepth 100000 in
set_option maxHeartbeats 800000 in
theorem ntp_range (B gb : Nat) (zs : List Int) (n : Nat) (w : World) (h : Tk w B gb zs) (hl : zs.length ≤ 65536) (hn : n ≤ 100000000000) (hs : zs.length < upN n) :
    Calls Try.prog 36 #[tkV gb, .int .u64 n] w fun r w' => r = .returned (.tuple #[.slice none 0 0, .int .i64 10]) ∧ w = w' := by
  have hu := upN_le n
  have HP := Lib.hid (npadded_ok n w (by omega))
  have HT := Lib.hid (ntake_range B gb zs (upN n) w h hl (by omega) hs)
  obtain ⟨u, hue⟩ : ∃ u, upN n = u := ⟨_, rfl⟩
  rw [hue] at HP HT hu
  clear h hs hue
  unfold tkV
  go_enter Try.func36, Try.ntmps36
  go_wp2_with fail
  refine HP.out.mono ?_
  rintro r w1 ⟨rfl, rfl⟩
  go_wp2_with fail
  refine HT.out.mono ?_
  rintro r w1 ⟨rfl, rfl⟩
  go_wp2
  go_ret2
  exact ⟨rfl, rfl⟩
set_option maxRecDepth 100000 in
set_option maxHeartbeats 1600000 in
theorem ntp_whole (B gb : Nat) (zs : List Int) (n : Nat) (w : World) (h : Tk w B gb zs) (hB : B ≤ gb) (hl : zs.length ≤ 65536) (hs : upN n ≤ zs.length) :
    Calls Try.prog 36 #[tkV gb, .int .u64 n] w fun r w' =>
      (((∃ j, n ≤ j ∧ j < upN n ∧ zs.getD j 0 ≠ 0) ∧ r = .returned (.tuple #[.slice none 0 0, .int .i64 11])) ∨
      ((∀ j, n ≤ j → j < upN n → zs.getD j 0 = 0) ∧ r = .returned (.tuple #[.slice (some ⟨w.heap.size, 0, none⟩) n n, .int .i64 0]) ∧ R8 w' w.heap.size (zs.take (upN n)) ∧ Tk w' B gb (zs.drop (upN n)))) ∧ w.grownBy w' (some gb) := by
  have hu := upN_le n
  have HP := Lib.hid (npadded_ok n w (by omega))
  have HT := Lib.hid (ntake_ok B gb zs (upN n) w h hB hl hs)
  have hbd := h.choose_spec.choose_spec.choose_spec.2.2.1.2.1
  have HBD := Lib.hid hbd
  have HTL : Hid ((zs.take (upN n)).length = upN n) := Lib.hid (by rw [List.length_take]; omega)
  obtain ⟨u, hue⟩ : ∃ u, upN n = u := ⟨_, rfl⟩
  rw [hue] at HP HT hu HTL hs ⊢
  have hui : (u : Int) ≤ 65536 := by omega
  have hni : (n : Int) ≤ u := by omega
  obtain ⟨g, hg⟩ : ∃ g, w.heap.size = g := ⟨_, rfl⟩
  clear h hue hbd
  unfold tkV
  by_cases hnu : n = u
  · subst hnu
    go_enter Try.func36, Try.ntmps36
    go_wp2_with fail
    refine HP.out.mono ?_
    rintro r w1 ⟨rfl, rfl⟩
    go_wp2_with fail
    refine HT.out.mono ?_
    rintro r w1 ⟨rfl, h8, htk, hgr⟩
    have H8 := Lib.hid h8
    have HTK := Lib.hid htk
    have HGR := Lib.hid hgr
    clear h8 htk hgr hg HP HT
    go_wp2
    go_loop [9, 24] (fun _ i => i = .int .i64 0) (fun _ i => 0)
    case atStart => rfl
    case round =>
      obtain rfl := hrel
      go_wp2
      go_ret2
      exact ⟨.inr ⟨fun j h1 h2 => absurd h1 (by omega), rfl, H8.out, HTK.out⟩, HGR.out⟩
  · have hnu2 : ¬ u - n = 0 := by omega
    have hnui : (n : Int) < u := by omega
    go_enter Try.func36, Try.ntmps36
    go_wp2_with fail
    refine HP.out.mono ?_
    rintro r w1 ⟨rfl, rfl⟩
    go_wp2_with fail
    refine HT.out.mono ?_
    rintro r w1 ⟨rfl, h8, htk, hgr⟩
    have H8 := Lib.hid h8
    have HTK := Lib.hid htk
    have HGR := Lib.hid hgr
    rw [hg] at h8
    have hby := h8.bys (fun m hm => HBD.out m (List.mem_of_mem_take hm))
    rw [HTL.out] at hby
    have HC : Hid (∀ k, k < u - n → w1.cell? ⟨g, n + k, none⟩ = some (.int .u8 (zs.getD (n + k) 0)) ∧ 0 ≤ zs.getD (n + k) 0 ∧ zs.getD (n + k) 0 ≤ 255) := Lib.hid (fun k hk => by
      have := hby.one (i := n + k) (by omega)
      rw [getD_take (by omega), Nat.zero_add] at this
      exact this)
    rw [hg] at H8 ⊢
    clear h8 htk hgr HP HT hby
    go_wp2
    go_loop [9, 24] (fun _ i => ∃ k : Nat, k ≤ u - n ∧ i = .int .i64 k ∧ ∀ j, n ≤ j → j < n + k → zs.getD j 0 = 0) (fun _ i => (u - n) - (intOf i).toNat)
    case atStart => exact ⟨0, Nat.zero_le _, rfl, fun j h1 h2 => absurd h1 (by omega)⟩
    case round =>
      obtain ⟨k, hk, rfl, hall⟩ := hrel
      have hki : (k : Int) ≤ 65536 := by omega
      by_cases hlt : k < u - n
      · have hlti : (k : Int) < (u - n : Nat) := by omega
        obtain ⟨c0, z0, z1⟩ := HC.out k hlt
        obtain ⟨z, hz⟩ : ∃ z, zs.getD (n + k) 0 = z := ⟨_, rfl⟩
        rw [hz] at c0 z0 z1
        by_cases cz : z = 0
        · subst cz
          go_wp2
          go_round
          case rel =>
            refine ⟨k + 1, by omega, by go_num, fun j h1 h2 => ?_⟩
            by_cases e : j = n + k
            · rw [e]; exact hz
            · exact hall j h1 (by omega)
          case measure => simp [intOf]; omega
        · have cz1 : (z != 0) = true := by simpa using cz
          have HNE : Hid (∃ j, n ≤ j ∧ j < u ∧ zs.getD j 0 ≠ 0) := Lib.hid ⟨n + k, by omega, by omega, by rw [hz]; exact cz⟩
          go_wp2
          go_ret2
          exact ⟨.inl ⟨HNE.out, rfl⟩, HGR.out⟩
      · obtain rfl : k = u - n := by omega
        go_wp2
        go_ret2
        exact ⟨.inr ⟨fun j h1 h2 => hall j h1 (by omega), rfl, H8.out, HTK.out⟩, HGR.out⟩
end Go.Proofs.Ytkgakdlalmmdiaa
