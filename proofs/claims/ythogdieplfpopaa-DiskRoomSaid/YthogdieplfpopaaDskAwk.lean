/-
  What is proved here: the document's example holds: 'awake' returns true, and writes nothing that was there.
  Conditions: none.
-/
import Derived.Test.YthogdieplfpopaaDskOwn
import Derived.Lib.SlBytesConst
namespace Go.Proofs.Ythogdieplfpopaa
open Go.RowKit Go.WideMaps Go.Maps
set_option linter.unusedVariables false
set_option linter.unusedSimpArgs false

def nA : ByteArray := ⟨#[97]⟩
def mkA : Do := ⟨2, 0, 0, [], .empty, nA⟩
def aw1 : Dk := ⟨100, [[]], [[]], [⟨nA, 0⟩], [], [mkA], false, 0⟩
def aw2 : Dk := ⟨100, [[120]], [[]], [⟨nA, 0⟩], [], [mkA, ⟨1, 0, 0, [120], .empty, .empty⟩], false, 0⟩
def aw3 : Dk := ⟨100, [[120]], [[120]], [⟨nA, 0⟩], [], [mkA], false, 0⟩
def aw4 : Dk := ⟨100, [[120]], [[120]], [⟨nA, 0⟩], [⟨nA, 0⟩], [], false, 0⟩
theorem aw_1 : doD (dk0 100) 1 nA .empty 0 [] = (aw1, 0) := by kernel_rfl
theorem aw_2 : doD aw1 2 nA .empty 0 [120] = (aw2, 0) := by kernel_rfl
theorem aw_3 : doD aw2 3 nA .empty 0 [] = (aw3, 0) := by kernel_rfl
theorem aw_4 : doD aw3 6 .empty .empty 0 [] = (aw4, 0) := by kernel_rfl
theorem aw_5 : crashD aw4 [] = aw4 := by kernel_rfl
theorem aw_6 : readD aw4 nA = ([120], 0) := by kernel_rfl
theorem aw_7 : usedD aw4 = 1 := by kernel_rfl
theorem aw_8 : strOfNums [120] = ⟨#[120]⟩ := by kernel_rfl
theorem nA_sz : nA.size ≤ maxLen := by decide +kernel
/-- A new block of bytes is another's. -/
theorem Oth.lit {P : Nat → Prop} (w : World) (fr : Nat × Nat) (zs : List Int) (hz : ∀ n ∈ zs, 0 ≤ n ∧ n ≤ 255) : Oth (But P w (w.alloc (.cells (zs.map (Value.int .u8)).toArray 5 fr))) (w.alloc (.cells (zs.map (Value.int .u8)).toArray 5 fr)) (.slice (some ⟨w.heap.size, 0, none⟩) zs.length zs.length) zs := by
  refine ⟨hz, .inr ⟨_, _, rfl, fun _ => ⟨by rw [al_size]; exact Nat.lt_succ_self _, fun hp => ?_⟩, fun j u hj => ?_⟩⟩
  · rcases hp.2 with h | h
    · exact Nat.lt_irrefl _ h
    · rw [al_size] at h; exact absurd h (Nat.not_succ_le_self _)
  · rw [add_none, Nat.zero_add, World.cell?, heap_alloc_new]
    simpa [u8V] using hj
set_option maxRecDepth 100000 in
set_option maxHeartbeats 3200000 in
theorem awake_any (w : World) :
    Calls Try.prog 9 #[] w fun e w' => e = .returned (.bool true) ∧ Below w.heap.size w w' := by
  have H0 := Lib.hid (Dw.new (P := fun k => w.heap.size ≤ k) w 100 (by decide) (by decide) (fun k hk => hk))
  have hq := cmp_ptr w.heap.size
  have hcv0 := fun (w : World) (C : Array Value) (n c : Nat) => Lib.run_convert_bytes_const (P := Try.prog) w 32 5 C n c Try.underlying32 Try.underlying5
  go_enter Try.func9, Try.ntmps9
  go_wp2_with fail
  refine H0.out.mono ?_
  rintro r w1 ⟨rfl, hd, hk⟩
  have D1 := Lib.hid hd
  have K1 := Lib.hid hk
  clear hd hk H0
  unfold ptrV
  go_wp2_with fail
  refine (D1.out.create nA_sz (by decide) (by decide) aw_1).mono ?_
  rintro r w2 ⟨rfl, hd, hk⟩
  have D2 := Lib.hid (hd.made (World.grownBy_alloc w2 (.cells #[.int .u8 120] 5 (1, 2)) none))
  have B2 : Hid (Oth (But (fun k => w.heap.size ≤ k) w2 (w2.alloc (.cells #[.int .u8 120] 5 (1, 2)))) (w2.alloc (.cells #[.int .u8 120] 5 (1, 2))) (.slice (some ⟨w2.heap.size, 0, none⟩) 1 1) [120]) := Lib.hid (Oth.lit w2 (1, 2) [120] (by decide))
  have K2 := Lib.hid ((K1.out.trans hk).trans (KP.grown (World.grownBy_alloc w2 (.cells #[.int .u8 120] 5 (1, 2)) none) (fun k hk => by cases hk)))
  clear hd hk D1 K1
  go_wp2_with fail
  refine (D2.out.write nA_sz B2.out (by decide +kernel) (by decide) (by decide) (by decide) (by decide) aw_2).mono ?_
  rintro r w3 ⟨rfl, hd, hk⟩
  have D3 := Lib.hid (hd.weak But.weak)
  have K3 := Lib.hid (K2.out.trans (hk.weak But.weak))
  clear hd hk D2 K2 B2
  go_wp2_with fail
  refine (D3.out.pending (n := 2) (by decide)).mono ?_
  rintro r w3' ⟨rfl, rfl⟩
  go_wp2_with fail
  refine (D3.out.sync nA_sz (by decide) (by decide) aw_3).mono ?_
  rintro r w4 ⟨rfl, hd, hk⟩
  have D4 := Lib.hid hd
  have K4 := Lib.hid (K3.out.trans hk)
  clear hd hk D3 K3
  go_wp2_with fail
  refine (D4.out.syncNames (by decide) (by decide) aw_4).mono ?_
  rintro r w5 ⟨rfl, hd, hk⟩
  have D5 := Lib.hid hd
  have K5 := Lib.hid (K4.out.trans hk)
  clear hd hk D4 K4
  go_wp2_with fail
  refine (D5.out.crash [] (fun _ _ => .inl ⟨rfl, rfl⟩) (by decide) (by decide) (by decide) aw_5).mono ?_
  rintro r w6 ⟨rfl, hd, hk⟩
  have D6 := Lib.hid hd
  have K6 := Lib.hid (K5.out.trans hk)
  clear hd hk D5 K5
  go_wp2_with fail
  refine (D6.out.read nA_sz (by decide) aw_6).mono ?_
  rintro r w7 ⟨ra, rc, rfl, hd, hk, hb⟩
  have D7 := Lib.hid hd
  have K7 := Lib.hid (K6.out.trans hk)
  have hcv := hb.conv
  rw [aw_8] at hcv
  simp only [List.length_singleton] at hcv ⊢
  clear hd hk hb D6 K6
  go_wp2_with fail
  refine (D7.out.used (by decide +kernel) aw_7).mono ?_
  rintro r w8 ⟨rfl, hd, hk⟩
  have D8 := Lib.hid hd
  have K8 := Lib.hid (K7.out.trans (hk.weak But.weak))
  clear hd hk D7 K7 hcv
  go_wp2_with fail
  refine (D8.out.names (n := 1) (by decide) (by decide)).mono ?_
  rintro r w9 ⟨⟨na, nk, rfl⟩, hd, hk⟩
  have K9 := Lib.hid ((K8.out.trans (hk.weak But.weak)).below (Nat.le_refl _) (fun k hk => hk))
  clear hd hk D8 K8
  go_wp2
  go_ret
  exact ⟨rfl, K9.out⟩
end Go.Proofs.Ythogdieplfpopaa
