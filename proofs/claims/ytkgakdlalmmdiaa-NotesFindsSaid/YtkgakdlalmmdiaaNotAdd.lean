/-
  What is proved here: add of package notes: a row of the call's own with a note's bytes behind it; Put: refused for a byte 0 in a name; the notes' bytes in new memory; refused for more than 65536.
  Conditions: none but that the arguments are values of their types, and notes of less than 900000 bytes in all.
-/
import Derived.Test.YtkgakdlalmmdiaaNotSmall
namespace Go.Proofs.Ytkgakdlalmmdiaa
open Go.RowKit
set_option linter.unusedVariables false
set_option linter.unusedSimpArgs false

/-- Bytes with the first numbers of a note behind them. -/
def numsN (F : List Int) (x y z : Int) : Nat → List Int
  | 0 => F
  | 1 => F ++ digs x 4
  | 2 => F ++ digs x 4 ++ digs y 4
  | _ => F ++ digs x 4 ++ digs y 4 ++ digs z 4
set_option maxRecDepth 100000 in
set_option maxHeartbeats 1600000 in
theorem nadd_r (base B : Nat) (v : Value) (F : List Int) (na : ByteArray) (ty : Int) (de : Bs) (w : World) (ho : Rw base w v F) (hB : B ≤ base) (hbase : base ≤ w.heap.size) (hde : de.Ok w B) (t0 : 0 ≤ ty) (t1 : ty ≤ 4294967295) (hF : F.length % 4 = 0) (hlen : F.length + (encN ⟨bs na, ty, de.zs⟩).length ≤ 900000) :
    Calls Try.prog 20 #[v, .agg #[.string na, .int .u32 ty, .slice de.a de.n de.c]] w fun r w' => ∃ v', r = .returned v' ∧ Rw base w' v' (F ++ encN ⟨bs na, ty, de.zs⟩) ∧ Below base w w' := by
  obtain ⟨i0, hi, hz0, hz1, hz2⟩ := info_parts info_u8
  have HI := Lib.hid hi
  have HZ0 := Lib.hid hz0
  have HZ1 := Lib.hid hz1
  have HZ2 := Lib.hid hz2
  have HDE := Lib.hid hde
  have HENC := Lib.hid (enc_parts F ⟨bs na, ty, de.zs⟩ hF)
  have hnl : (bs na).length = na.size := bs_len na
  have hdl : de.zs.length = de.n := hde.bys.1
  rw [encN_len] at hlen
  simp only [hnl, hdl] at hlen HENC
  rw [show ((na.size + 1 : Nat) : Int) = (na.size : Int) + 1 by omega] at HENC
  have hu1 := (upN_le (na.size + 1)).1
  have hu2 := (upN_le de.n).1
  have HHF := Lib.hid hF
  have HNL := Lib.hid hnl
  have HDL := Lib.hid hdl
  obtain ⟨Z, hZ⟩ : ∃ Z, F ++ encN ⟨bs na, ty, de.zs⟩ = Z := ⟨_, rfl⟩
  rw [hZ] at HENC ⊢
  obtain ⟨va, vc, rfl⟩ := own_slice ho
  have HO0 := Lib.hid ho
  have hns : (na.size : Int) ≤ 1000000 := by omega
  have hds : (de.n : Int) ≤ 1000000 := by omega
  have HLEN := Lib.hid hlen
  have HL0 : Hid ((numsN F ((na.size : Int) + 1) (de.n : Int) ty 0).length = F.length) := Lib.hid rfl
  have HL1 : Hid ((numsN F ((na.size : Int) + 1) (de.n : Int) ty 1).length = F.length + 4) := Lib.hid (by simp [numsN, digs_len])
  have HL2 : Hid ((numsN F ((na.size : Int) + 1) (de.n : Int) ty 2).length = F.length + 8) := Lib.hid (by simp [numsN, digs_len])
  have HL3 : Hid ((numsN F ((na.size : Int) + 1) (de.n : Int) ty 3).length = F.length + 12) := Lib.hid (by simp [numsN, digs_len])
  have ia0 : ∀ w, (Instr.index 63 (.agg #[.int .u64 ((na.size : Int) + 1), .int .u64 de.n, .int .u64 ty]) (.int .i64 0)).run Try.prog w = .ok (.int .u64 ((na.size : Int) + 1)) w := fun _ => by kernel_rfl
  have ia1 : ∀ w, (Instr.index 63 (.agg #[.int .u64 ((na.size : Int) + 1), .int .u64 de.n, .int .u64 ty]) (.int .i64 1)).run Try.prog w = .ok (.int .u64 de.n) w := fun _ => by kernel_rfl
  have ia2 : ∀ w, (Instr.index 63 (.agg #[.int .u64 ((na.size : Int) + 1), .int .u64 de.n, .int .u64 ty]) (.int .i64 2)).run Try.prog w = .ok (.int .u64 ty) w := fun _ => by kernel_rfl
  have HBX0 : Hid (Blk (w.alloc (.cells #[.string na, .int .u32 ty, .slice de.a de.n de.c] 42)) w.heap.size #[.string na, .int .u32 ty, .slice de.a de.n de.c] 42) := Lib.hid (Blk.new w _ _)
  have HOB : Hid (Rw base (w.alloc (.cells #[.string na, .int .u32 ty, .slice de.a de.n de.c] 42)) (.slice va F.length vc) F) := Lib.hid (HO0.out.alloc _)
  have HBB : Hid (Below base w (w.alloc (.cells #[.string na, .int .u32 ty, .slice de.a de.n de.c] 42))) := Lib.hid ((Below.refl _ _).alloc hbase _)
  clear hi hz0 hz1 hz2 ho hde hF hnl hdl hZ hlen
  go_enter Try.func20, Try.ntmps20
  go_wp2
  go_loopw [0, 6, 20] (fun v _ i wr => ∃ k : Nat, k ≤ 3 ∧ i = .int .i64 k ∧ Rw base wr v (numsN F ((na.size : Int) + 1) (de.n : Int) ty k) ∧ Below base w wr ∧ Blk wr w.heap.size #[.string na, .int .u32 ty, .slice de.a de.n de.c] 42) (fun _ _ i _ => 3 - (intOf i).toNat)
  case atStart => exact ⟨0, by decide, rfl, HOB.out, HBB.out, HBX0.out⟩
  case round =>
    obtain ⟨k, hk, rfl, hown, hbel, hblk⟩ := hrel
    have hlen := HLEN.out
    obtain rfl | rfl | rfl | rfl : k = 0 ∨ k = 1 ∨ k = 2 ∨ k = 3 := by omega
    · have HO := Lib.hid hown
      have HB := Lib.hid hbel
      have HK := Lib.hid hblk
      have hgz := hblk.lt
      clear hown hbel hblk
      go_wp2_with fail
      refine (nwrite_ok ((na.size : Int) + 1) _ (by omega) (by omega)).mono ?_
      rintro r w2 ⟨⟨g, rfl, hm⟩, hb2⟩
      have HM := Lib.hid hm
      have HB3 := Lib.hid (HB.out.trans (hb2.mono (Nat.le_trans hbase HB.out.size)))
      have HO2 := Lib.hid (own_below HO.out hb2)
      have HK2 := Lib.hid (HK.out.later hb2)
      clear hm hb2
      go_wp2_with (at_builtin; refine wpList_append_bys rfl _ _ 25 rfl base 5 i0 (.int .u8 0) 1 Try.underlying25 HI.out HZ0.out HZ1.out HZ2.out rfl _ (numsN F ((na.size : Int) + 1) (de.n : Int) ty 0).length _ rfl HO2.out _ 4 4 _ (digs ((na.size : Int) + 1) 4) rfl HM.out (fun h => by cases h) ?d0a ?d0b ?d0c ?_)
      case d0a => rw [HL0.out]; unfold maxLen; omega
      case d0b => rw [HL0.out]; omega
      case d0c => exact (Nat.le_trans hbase HB3.out.size)
      intro v3 w3 hown3 hg3
      have HB4 : Hid (Below base w w3) := Lib.hid (HB3.out.grown hg3 (Nat.le_trans hbase HB3.out.size) (fun q e => (HO2.out.lt q e).1))
      have HO3 : Hid (Rw base w3 v3 (numsN F ((na.size : Int) + 1) (de.n : Int) ty 1)) := Lib.hid (by
        unfold Rw
        rw [show numsN F ((na.size : Int) + 1) (de.n : Int) ty 1 = numsN F ((na.size : Int) + 1) (de.n : Int) ty 0 ++ digs ((na.size : Int) + 1) 4 from rfl, List.length_append, digs_len, List.map_append]
        exact hown3)
      have HK3 : Hid (Blk w3 w.heap.size _ _) := Lib.hid (HK2.out.grown hg3 (own_not_blk HO2.out HK2.out (by decide)))
      clear hown3 hg3
      go_wp2
      go_roundw
      case rel => exact ⟨1, by decide, by go_num, HO3.out, HB4.out, HK3.out⟩
      case measure => (simp [intOf] <;> omega)
    · have HO := Lib.hid hown
      have HB := Lib.hid hbel
      have HK := Lib.hid hblk
      have hgz := hblk.lt
      clear hown hbel hblk
      go_wp2_with fail
      refine (nwrite_ok (de.n : Int) _ (by omega) (by omega)).mono ?_
      rintro r w2 ⟨⟨g, rfl, hm⟩, hb2⟩
      have HM := Lib.hid hm
      have HB3 := Lib.hid (HB.out.trans (hb2.mono (Nat.le_trans hbase HB.out.size)))
      have HO2 := Lib.hid (own_below HO.out hb2)
      have HK2 := Lib.hid (HK.out.later hb2)
      clear hm hb2
      go_wp2_with (at_builtin; refine wpList_append_bys rfl _ _ 25 rfl base 5 i0 (.int .u8 0) 1 Try.underlying25 HI.out HZ0.out HZ1.out HZ2.out rfl _ (numsN F ((na.size : Int) + 1) (de.n : Int) ty 1).length _ rfl HO2.out _ 4 4 _ (digs (de.n : Int) 4) rfl HM.out (fun h => by cases h) ?d1a ?d1b ?d1c ?_)
      case d1a => rw [HL1.out]; unfold maxLen; omega
      case d1b => rw [HL1.out]; omega
      case d1c => exact (Nat.le_trans hbase HB3.out.size)
      intro v3 w3 hown3 hg3
      have HB4 : Hid (Below base w w3) := Lib.hid (HB3.out.grown hg3 (Nat.le_trans hbase HB3.out.size) (fun q e => (HO2.out.lt q e).1))
      have HO3 : Hid (Rw base w3 v3 (numsN F ((na.size : Int) + 1) (de.n : Int) ty 2)) := Lib.hid (by
        unfold Rw
        rw [show numsN F ((na.size : Int) + 1) (de.n : Int) ty 2 = numsN F ((na.size : Int) + 1) (de.n : Int) ty 1 ++ digs (de.n : Int) 4 from rfl, List.length_append, digs_len, List.map_append]
        exact hown3)
      have HK3 : Hid (Blk w3 w.heap.size _ _) := Lib.hid (HK2.out.grown hg3 (own_not_blk HO2.out HK2.out (by decide)))
      clear hown3 hg3
      go_wp2
      go_roundw
      case rel => exact ⟨2, by decide, by go_num, HO3.out, HB4.out, HK3.out⟩
      case measure => (simp [intOf] <;> omega)
    · have HO := Lib.hid hown
      have HB := Lib.hid hbel
      have HK := Lib.hid hblk
      have hgz := hblk.lt
      clear hown hbel hblk
      go_wp2_with fail
      refine (nwrite_ok ty _ (by omega) (by omega)).mono ?_
      rintro r w2 ⟨⟨g, rfl, hm⟩, hb2⟩
      have HM := Lib.hid hm
      have HB3 := Lib.hid (HB.out.trans (hb2.mono (Nat.le_trans hbase HB.out.size)))
      have HO2 := Lib.hid (own_below HO.out hb2)
      have HK2 := Lib.hid (HK.out.later hb2)
      clear hm hb2
      go_wp2_with (at_builtin; refine wpList_append_bys rfl _ _ 25 rfl base 5 i0 (.int .u8 0) 1 Try.underlying25 HI.out HZ0.out HZ1.out HZ2.out rfl _ (numsN F ((na.size : Int) + 1) (de.n : Int) ty 2).length _ rfl HO2.out _ 4 4 _ (digs ty 4) rfl HM.out (fun h => by cases h) ?d2a ?d2b ?d2c ?_)
      case d2a => rw [HL2.out]; unfold maxLen; omega
      case d2b => rw [HL2.out]; omega
      case d2c => exact (Nat.le_trans hbase HB3.out.size)
      intro v3 w3 hown3 hg3
      have HB4 : Hid (Below base w w3) := Lib.hid (HB3.out.grown hg3 (Nat.le_trans hbase HB3.out.size) (fun q e => (HO2.out.lt q e).1))
      have HO3 : Hid (Rw base w3 v3 (numsN F ((na.size : Int) + 1) (de.n : Int) ty 3)) := Lib.hid (by
        unfold Rw
        rw [show numsN F ((na.size : Int) + 1) (de.n : Int) ty 3 = numsN F ((na.size : Int) + 1) (de.n : Int) ty 2 ++ digs ty 4 from rfl, List.length_append, digs_len, List.map_append]
        exact hown3)
      have HK3 : Hid (Blk w3 w.heap.size _ _) := Lib.hid (HK2.out.grown hg3 (own_not_blk HO2.out HK2.out (by decide)))
      clear hown3 hg3
      go_wp2
      go_roundw
      case rel => exact ⟨3, by decide, by go_num, HO3.out, HB4.out, HK3.out⟩
      case measure => (simp [intOf] <;> omega)
    · have HO3 := Lib.hid hown
      have HB3 := Lib.hid hbel
      have HK3 := Lib.hid hblk
      clear hown hbel hblk HO0 HOB HBB HBX0
      obtain ⟨G, hG⟩ : ∃ G, numsN F ((na.size : Int) + 1) (de.n : Int) ty 3 = G := ⟨_, rfl⟩
      rw [show F ++ digs ((na.size : Int) + 1) 4 ++ digs (de.n : Int) 4 ++ digs ty 4 = numsN F ((na.size : Int) + 1) (de.n : Int) ty 3 from rfl, hG] at HENC
      rw [hG] at HO3 HL3
      obtain ⟨ga, gc, rfl⟩ := own_slice HO3.out
      obtain ⟨c0, c1, c2⟩ := Nt.cs HK3.out
      clear hG
      go_wp2_with (at_builtin; refine Lib.wpList_append_own_string _ rfl _ _ 25 9 rfl base 5 i0 Try.underlying25 Try.underlying9 HI.out HZ0.out HZ1.out HZ2.out _ G.length _ rfl HO3.out na rfl ?c1 ?c2 ?c3 ?_)
      case c1 => rw [HL3.out]; unfold maxLen; omega
      case c2 => rw [HL3.out]; omega
      case c3 => exact (Nat.le_trans hbase HB3.out.size)
      intro v4 w4 hv4 hg4 hnil4
      rw [bs_cells, ← List.map_append] at hv4
      have HB4 : Hid (Below base w w4) := Lib.hid (HB3.out.grown hg4 (Nat.le_trans hbase HB3.out.size) (fun q e => (HO3.out.lt q e).1))
      have HO4 : Hid (Rw base w4 v4 (G ++ bs na)) := Lib.hid (by unfold Rw; rw [List.length_append, HNL.out]; exact hv4)
      have HL4 : Hid ((G ++ bs na).length = F.length + 12 + na.size) := Lib.hid (by rw [List.length_append, HL3.out, HNL.out])
      have HK4 := Lib.hid (HK3.out.grown hg4 (own_not_blk HO3.out HK3.out (by decide)))
      clear hv4 hg4 hnil4 c0 c1 c2
      go_wp2_with (at_builtin; refine wpList_append_own _ rfl _ _ 25 rfl base 5 i0 (.int .u8 0) 1 1 Try.underlying25 HI.out HZ0.out HZ1.out HZ2.out rfl (by decide) _ (G ++ bs na).length _ rfl (HO4.out.alloc _) ⟨w4.heap.size, 0, none⟩ 1 1 [.int .u8 0] rfl rfl ?d1 ?d2 ?d3 ?d4 ?d5 ?_)
      case d1 => exact cell_one_new _ _ _
      case d2 => intro u hu; obtain rfl := List.mem_singleton.1 hu; rfl
      case d3 => rw [HL4.out]; unfold maxLen; omega
      case d4 => rw [HL4.out]; omega
      case d5 => have := (Nat.le_trans hbase HB4.out.size); simp; omega
      intro v5 w5 hv5 hg5 hnil5
      have HB5 : Hid (Below base w w5) := Lib.hid ((HB4.out.alloc (Nat.le_trans hbase HB4.out.size) _).grown hg5 (by have := HB4.out.size; simp; omega) (fun q e => (HO4.out.lt q e).1))
      have HO5 : Hid (Rw base w5 v5 (G ++ bs na ++ [0])) := Lib.hid (by
        have e5 : (G ++ bs na ++ [0]).length = G.length + (bs na).length + 1 := by rw [List.length_append, List.length_append]; rfl
        unfold Rw
        rw [e5]
        simp only [List.length_append, List.map_append, List.append_assoc, List.map_cons, List.map_nil] at hv5 ⊢
        exact hv5)
      have HL5 : Hid ((G ++ bs na ++ [0]).length = F.length + 12 + na.size + 1) := Lib.hid (by rw [List.length_append, HL4.out]; rfl)
      have HK5 := Lib.hid ((HK4.out.alloc _).grown hg5 (own_not_blk HO4.out HK4.out (by decide)))
      clear hv5 hg5 hnil5
      go_wp2_with fail
      refine (npad_r base _ (G ++ bs na ++ [0]) _ HO5.out (Nat.le_trans hbase HB5.out.size) (by rw [HL5.out]; omega)).mono ?_
      rintro r w6 ⟨v6, rfl, ho, hb, hkeep⟩
      have HO6 := Lib.hid ho
      have HB6 := Lib.hid (HB5.out.trans hb)
      have HL6 : Hid ((padN (G ++ bs na ++ [0])).length = F.length + 12 + upN (na.size + 1)) := Lib.hid (by
        rw [padN_len, HL5.out, show F.length + 12 + na.size + 1 = (F.length + 12) + (na.size + 1) by omega, upN_add (by have := HHF.out; omega)])
      have HK6 := Lib.hid (hkeep _ _ _ (by decide) HK5.out)
      clear ho hb hkeep
      obtain ⟨c0, c1, c2⟩ := Nt.cs HK6.out
      have HDE2 := Lib.hid (HDE.out.below (HB6.out.mono hB))
      have hdn : de.n ≤ de.c := HDE2.out.le
      go_wp2_with (at_builtin; refine wpList_append_bys rfl _ _ 25 rfl base 5 i0 (.int .u8 0) 1 Try.underlying25 HI.out HZ0.out HZ1.out HZ2.out rfl _ (padN (G ++ bs na ++ [0])).length _ rfl HO6.out _ de.n de.c _ de.zs rfl HDE2.out.bys HDE2.out.nil ?e1 ?e2 ?e3 ?_)
      case e1 => rw [HL6.out]; unfold maxLen; omega
      case e2 => rw [HL6.out]; omega
      case e3 => exact Nat.le_trans hbase HB6.out.size
      intro v7 w7 hv7 hg7
      have HB7 : Hid (Below base w w7) := Lib.hid (HB6.out.grown hg7 (Nat.le_trans hbase HB6.out.size) (fun q e => (HO6.out.lt q e).1))
      have HO7 : Hid (Rw base w7 v7 (padN (G ++ bs na ++ [0]) ++ de.zs)) := Lib.hid (by unfold Rw; rw [List.length_append, HDL.out, List.map_append, List.append_assoc G]; exact hv7)
      have HL7 : Hid ((padN (G ++ bs na ++ [0]) ++ de.zs).length = F.length + 12 + upN (na.size + 1) + de.n) := Lib.hid (by rw [List.length_append, HL6.out, HDL.out])
      clear hv7 hg7 c0 c1 c2
      go_wp2_with fail
      refine (npad_r base _ (padN (G ++ bs na ++ [0]) ++ de.zs) _ HO7.out (Nat.le_trans hbase HB7.out.size) (by rw [HL7.out]; omega)).mono ?_
      rintro r w8 ⟨v8, rfl, ho, hb, -⟩
      have HO8 : Hid (Rw base w8 v8 Z) := Lib.hid (by rw [HENC.out]; exact ho)
      have HB8 := Lib.hid (HB7.out.trans hb)
      clear ho hb
      go_wp2
      go_ret
      exact ⟨_, rfl, HO8.out, HB8.out⟩

set_option maxRecDepth 100000 in
set_option maxHeartbeats 1600000 in
theorem nput_bytes (B : Nat) (a : Option Addr) (len cap : Nat) (L : List Nt) (w : World) (hs : Nt.Sl w B a len L) (hB : B ≤ w.heap.size) (hl : len ≤ 1000000) (hc : (L.map Nt.nd).any zeroIn = false) (hF : (flatN (L.map Nt.nd)).length ≤ 900000) :
    Calls Try.prog 11 #[.slice a len cap] w fun e w' => ((65536 < (flatN (L.map Nt.nd)).length ∧ e = .returned (.tuple #[.slice none 0 0, .int .i64 13])) ∨
      ((flatN (L.map Nt.nd)).length ≤ 65536 ∧ ∃ u, e = .returned (.tuple #[u, .int .i64 0]) ∧ Rw w.heap.size w' u (flatN (L.map Nt.nd)))) ∧ Below w.heap.size w w' := by
  have hli : (len : Int) ≤ 1000000 := by omega
  have HZ := nzero_any B a len cap L w hs hB (by omega)
  rw [hc] at HZ
  have HZ := Lib.hid HZ
  have HS := Lib.hid hs
  have HL : Hid (L.length = len) := Lib.hid hs.hl
  have HFB := Lib.hid hF
  clear hs hc hF
  go_enter Try.func11, Try.ntmps11
  go_wp2_with fail
  refine HZ.out.mono ?_
  rintro r w1 ⟨rfl, hb1⟩
  have HB1 := Lib.hid hb1
  have HO0 : Hid (Rw w.heap.size w1 (.slice none 0 0) (firstN L 0)) := Lib.hid (World.ownsRow_nil _ _ _ _)
  clear hb1
  go_wp2
  go_loopw [4, 11] (fun v i wr => ∃ q : Nat, q ≤ len ∧ i = .int .i64 q ∧ Rw w.heap.size wr v (firstN L q) ∧ (firstN L q).length ≤ 65536 ∧ Below w.heap.size w wr) (fun _ i _ => len - (intOf i).toNat)
  case atStart => exact ⟨0, Nat.zero_le _, rfl, HO0.out, by simp [firstN, flatN], HB1.out⟩
  case round =>
    obtain ⟨q, hq, rfl, hown, hle, hbel⟩ := hrel
    obtain ⟨F, hFe⟩ : ∃ F, firstN L q = F := ⟨_, rfl⟩
    rw [hFe] at hown hle
    have HO := Lib.hid hown
    have HB := Lib.hid hbel
    obtain ⟨va, vc, rfl⟩ := own_slice hown
    clear hown hbel HO0
    by_cases hlt : q < len
    · obtain ⟨b, off, rfl, hbB, hcell⟩ := HS.out.hc (by omega)
      have hF1 := firstN_le L (q + 1)
      have HEN : Hid (firstN L (q + 1) = firstN L q ++ encN (L.getD q Nt.zero).nd) := Lib.hid (firstN_succ (by rw [HL.out]; exact hlt))
      have hF0 := firstN_mod L q
      obtain ⟨c0, c1, c2⟩ := (hcell q hlt).below (HB.out.mono hB) hbB
      have hok := (HS.out.okAt hlt).below (HB.out.mono hB)
      have hlti : (q : Int) < len := by omega
      have hwz := HB.out.size
      clear hcell
      rw [HEN.out, List.length_append, encN_len] at hF1
      obtain ⟨s, hsn⟩ : ∃ s, L.getD q Nt.zero = s := ⟨_, rfl⟩
      rw [hsn] at c0 c1 c2 hok HEN hF1
      rw [hFe] at hF0 HEN hF1
      obtain ⟨na, ty, de⟩ := s
      have hnl : (bs na).length = na.size := bs_len na
      have hdl : de.zs.length = de.n := hok.de.bys.1
      obtain ⟨ty0, ty1⟩ := hok.ty
      have hde0 := hok.de
      simp only [Nt.nd] at c0 c1 c2 HEN hF1 ty0 ty1 hde0
      rw [hnl, hdl] at hF1
      have hu1 := (upN_le (na.size + 1)).1
      have hu2 := (upN_le de.n).1
      have hfb := HFB.out
      obtain ⟨X, hX⟩ : ∃ X, X = wr.alloc (.cells #[.string na, .int .u32 ty, .slice de.a de.n de.c] 42) := ⟨_, rfl⟩
      have HBX : Hid (Below wr.heap.size wr X) := Lib.hid (hX ▸ (Below.refl _ _).alloc (Nat.le_refl _) _)
      have HKX : Hid (Blk X wr.heap.size #[.string na, .int .u32 ty, .slice de.a de.n de.c] 42) := Lib.hid (hX ▸ Blk.new wr _ _)
      have HXE := Lib.hid hX
      have HOX : Hid (Rw w.heap.size X (.slice va F.length vc) F) := Lib.hid (hX ▸ HO.out.alloc _)
      have HDE := Lib.hid (hde0.below (HBX.out.mono (by omega)))
      have HSZ := Lib.hid (fun wx => nsize_ok na ty de.a de.n de.c wx (by omega) (by omega))
      have HADD := Lib.hid (fun w2 (h1 : Rw w.heap.size w2 (.slice va F.length vc) F) (h2 : Below w.heap.size w w2) (h3 : de.Ok w2 B) => nadd_r w.heap.size B (.slice va F.length vc) F na ty de w2 h1 hB h2.size h3 ty0 ty1 hF0 (by rw [encN_len]; simp only; rw [hnl, hdl]; omega))
      have HLE : Hid ((firstN L (q + 1)).length = F.length + (12 + upN (na.size + 1) + upN de.n)) := Lib.hid (by rw [HEN.out, List.length_append, encN_len]; simp only; rw [hnl, hdl]; omega)
      obtain ⟨z, hz⟩ : ∃ z, 12 + upN (na.size + 1) + upN de.n = z := ⟨_, rfl⟩
      rw [hz] at HSZ HLE
      have hzi : (z : Int) ≤ 900000 := by omega
      have hFi : (F.length : Int) ≤ 65536 := by omega
      have HQL := Lib.hid (firstN_le L (q + 1))
      clear hok hde0 hsn hFe hnl hdl hu1 hu2 hX hz hF1
      go_wp2_with fail
      rw [← HXE.out]
      refine (HSZ.out X).mono ?_
      rintro r w2 ⟨rfl, hb2⟩
      have HB2 := Lib.hid (HB.out.trans ((HBX.out.trans (hb2.mono HBX.out.size)).mono HB.out.size))
      have HK2 := Lib.hid (HKX.out.later hb2)
      have HO2 := Lib.hid (own_below HOX.out hb2)
      have HDE2 := Lib.hid (HDE.out.below (hb2.mono (by have := HBX.out.size; omega)))
      clear hb2
      obtain ⟨c0, c1, c2⟩ := Nt.cs HK2.out
      by_cases hbig : 65536 - (F.length : Int) < z
      · go_wp2
        go_ret2
        exact ⟨.inl ⟨by have := HQL.out; rw [HLE.out] at this; omega, rfl⟩, HB2.out⟩
      · go_wp2_with fail
        refine (HADD.out w2 HO2.out HB2.out HDE2.out).mono ?_
        rintro r w3 ⟨v3, rfl, ho, hb3⟩
        have HO3 : Hid (Rw w.heap.size w3 v3 (firstN L (q + 1))) := Lib.hid (by rw [HEN.out]; exact ho)
        have HB3 := Lib.hid (HB2.out.trans hb3)
        clear ho hb3
        go_wp2
        go_roundw
        case rel => exact ⟨q + 1, by omega, by go_num, HO3.out, by rw [HLE.out]; omega, HB3.out⟩
        case measure => simp [intOf]; omega
    · obtain rfl : q = len := by omega
      obtain rfl : flatN (L.map Nt.nd) = F := by rw [← hFe, ← HL.out, firstN_all]
      have HO9 := HO
      clear HO hFe
      go_wp2
      go_ret2
      exact ⟨.inr ⟨hle, _, rfl, HO9.out⟩, HB.out⟩
set_option maxRecDepth 100000 in
set_option maxHeartbeats 800000 in
theorem nput_arg (B : Nat) (a : Option Addr) (len cap : Nat) (L : List Nt) (w : World) (hs : Nt.Sl w B a len L) (hB : B ≤ w.heap.size) (hl : len ≤ 1000000) (hc : (L.map Nt.nd).any zeroIn = true) :
    Calls Try.prog 11 #[.slice a len cap] w fun e w' => e = .returned (.tuple #[.slice none 0 0, .int .i64 1]) ∧ Below w.heap.size w w' := by
  have HZ := nzero_any B a len cap L w hs hB (by omega)
  rw [hc] at HZ
  have HZ := Lib.hid HZ
  clear hs hc
  go_enter Try.func11, Try.ntmps11
  go_wp2_with fail
  refine HZ.out.mono ?_
  rintro r w1 ⟨rfl, hb1⟩
  have HB1 := Lib.hid hb1
  clear hb1
  go_wp2
  go_ret2
  exact ⟨rfl, HB1.out⟩
theorem nput_any (B : Nat) (a : Option Addr) (len cap : Nat) (L : List Nt) (w : World) (hs : Nt.Sl w B a len L) (hB : B ≤ w.heap.size) (hl : len ≤ 1000000) (hF : (flatN (L.map Nt.nd)).length ≤ 900000) (hcap : len ≤ cap) (hcm : (cap : Int) ≤ 9223372036854775807) :
    Calls Try.prog 11 #[.slice a len cap] w (PutPost (putN (L.map Nt.nd)) w) := by
  by_cases hany : (L.map Nt.nd).any zeroIn = true
  · refine (nput_arg B a len cap L w hs hB hl hany).mono ?_
    rintro e w' ⟨rfl, hbel⟩
    unfold putN
    rw [hany, if_pos rfl]
    exact ⟨⟨_, rfl, World.ownsRow_nil _ _ _ _⟩, hbel⟩
  · have hany : (L.map Nt.nd).any zeroIn = false := by simpa using hany
    refine (nput_bytes B a len cap L w hs hB hl hany hF).mono ?_
    rintro e w' ⟨⟨hb, rfl⟩ | ⟨hb, u, rfl, hu⟩, hbel⟩
    · unfold putN
      rw [hany, if_neg (by decide), if_pos hb]
      exact ⟨⟨_, rfl, World.ownsRow_nil _ _ _ _⟩, hbel⟩
    · unfold putN
      rw [hany, if_neg (by decide), if_neg (by omega)]
      exact ⟨⟨_, rfl, hu⟩, hbel⟩
end Go.Proofs.Ytkgakdlalmmdiaa
