/-
  What is proved here: for DiskRoom: rows of the law's own beside a disk; a part of a slice as a string; what is kept, of an act.
  Conditions: none.
-/
import Derived.Test.YthogdieplfpopaaDskRm
import Derived.Test.YthogdieplfpopaaActWords
import Derived.Test.YthogdieplfpopaaApp
namespace Go.Proofs.Ythogdieplfpopaa
open Go.RowKit Go.WideMaps Go.Maps
set_option linter.unusedVariables false
set_option linter.unusedSimpArgs false

theorem KP.drew {P : Nat → Prop} {w w' : World} (h : KP P w w') : KP P w w'.drew := ⟨h.os, h.tape, h.output, h.size, h.keep⟩
theorem KP.drewN {P : Nat → Prop} {w w' : World} (h : KP P w w') (n : Nat) : KP P w (w'.drewN n) := ⟨h.os, h.tape, h.output, h.size, h.keep⟩
theorem Dw.drewN {P : Nat → Prop} {g : Nat} {w : World} {d : Dk} {c e : Nat} (h : Dw P g w d c e) (n : Nat) : Dw P g (w.drewN n) d c e := by
  obtain ⟨S, a, b, o, f⟩ := h
  exact ⟨S, a.same (fun _ _ => rfl) (Nat.le_refl _), b, o, f⟩
theorem own_kp {P : Nat → Prop} {w w' : World} {base s n : Nat} {e : TypeId} {v : Value} {xs : List Value} (h : w.ownsRow base e s v n xs) (hk : KP P w w') (hp : ∀ k, v.ownBlock = some k → ¬ P k) : w'.ownsRow base e s v n xs :=
  row_same h fun k hkk => by
    obtain ⟨C, hC⟩ := row_blk h hkk
    exact hk.keep k hC.lt (hp k hkk)
/-- Bytes of a block, that may be written. -/
def ByR (w : World) (a : Option Addr) (n : Nat) : Prop := ∀ i, i < n → ∃ g, a = some ⟨g, 0, none⟩ ∧ w.frozen? ⟨g, i, none⟩ = false ∧ ∃ v : Int, 0 ≤ v ∧ v ≤ 255 ∧ w.cell? ⟨g, i, none⟩ = some (.int .u8 v)
theorem ByR.own {w : World} {base : Nat} {a : Option Addr} {n c : Nat} {zs : List Int} (h : w.ownsRow base 5 1 (.slice a n c) n (u8V zs)) (hz : ∀ x ∈ zs, 0 ≤ x ∧ x ≤ 255) : ByR w a n := by
  intro i hi
  have hl : zs.length = n := by have := h.1; unfold u8V at this; rw [List.length_map] at this; omega
  rcases h.2 with ⟨e1, e0⟩ | ⟨g, cap, cur, e1, hb, hg, r1, r2, r3, r4⟩
  · omega
  · injection e1 with e1 _ _
    subst e1
    refine ⟨g, rfl, ?_, zs.getD i 0, ?_⟩
    · exact Blk.frozen (show Blk w g cur 5 from hg) i
    · have hm : zs.getD i 0 ∈ zs := by
        rw [List.getD_eq_getElem?_getD, List.getElem?_eq_getElem (by omega)]; exact List.getElem_mem (by omega)
      refine ⟨(hz _ hm).1, (hz _ hm).2, ?_⟩
      have := h.cells (g := g) rfl i (.int .u8 (zs.getD i 0)) (by
        unfold u8V
        rw [List.getElem?_map, List.getElem?_eq_getElem (by omega), Option.map_some, List.getD_eq_getElem?_getD, List.getElem?_eq_getElem (by omega)]; rfl)
      rwa [add_none, Nat.zero_add] at this
theorem ByR.set {w : World} {g n j : Nat} {x : Int} (h : ByR w (some ⟨g, 0, none⟩) n) (hj : j < n) (x0 : 0 ≤ x) (x1 : x ≤ 255) : ByR (w.setCell ⟨g, j, none⟩ (.int .u8 x)) (some ⟨g, 0, none⟩) n := by
  intro i hi
  obtain ⟨g', e, f, v, v0, v1, hc⟩ := h i hi
  injection e with e
  injection e with e
  subst e
  refine ⟨g, rfl, ?_, ?_⟩
  · rw [World.frozen?_setCell]; exact f
  · by_cases ej : i = j
    · subst ej
      exact ⟨x, x0, x1, World.cell?_setCell_same' w _ _ (by rw [hc]; rfl)⟩
    · exact ⟨v, v0, v1, by rw [World.cell?_setCell_other _ _ _ _ (by intro e; cases e; exact ej rfl)]; exact hc⟩
theorem ByR.keep {P : Nat → Prop} {w w' : World} {a : Option Addr} {n : Nat} (h : ByR w a n) (hk : KP P w w') (hp : ∀ g, a = some ⟨g, 0, none⟩ → ¬ P g) : ByR w' a n := by
  intro i hi
  obtain ⟨g, e, f, v, v0, v1, hc⟩ := h i hi
  have hb := hk.keep g (World.block_lt_of_cell? w _ hc) (hp g e)
  refine ⟨g, e, ?_, v, v0, v1, by rw [World.cell?_of_block (a := ⟨g, i, none⟩) hb]; exact hc⟩
  rw [World.frozen?_of_block (a := ⟨g, i, none⟩) hb]; exact f
theorem ByR.drewN {w : World} {a : Option Addr} {n : Nat} (h : ByR w a n) (k : Nat) : ByR (w.drewN k) a n := h
theorem xor_bd (v : Int) : 0 ≤ bits .xor .u8 v 255 ∧ bits .xor .u8 v 255 ≤ 255 := by
  have : ∃ z : Int, bits .xor .u8 v 255 = z % 256 := ⟨_, rfl⟩
  obtain ⟨z, hz⟩ := this
  rw [hz]; omega
/-- A part of a slice, and it as a string. -/
theorem sub_run {w : World} {xa : Option Addr} {xc : Nat} {zs : List Int} (h : Src w (.slice xa zs.length xc) zs) (hb : ∀ n ∈ zs, 0 ≤ n ∧ n ≤ 255) (hzc : zs.length ≤ xc) {p n : Nat} (hp : p + n ≤ zs.length) :
    ∃ xa', (∀ wx, (Instr.sliceAt 32 (.slice xa zs.length xc) (some (.int .i64 p)) (some (.int .i64 ((p : Int) + n))) none).run Try.prog wx = .ok (.slice xa' n (xc - p)) wx) ∧
      ∀ wx, Src wx (.slice xa zs.length xc) zs → (convert 32 9 (.slice xa' n (xc - p))).run Try.prog wx = .ok (.string (strOfNums ((zs.drop p).take n))) wx := by
  refine ⟨(if xc = p then xa else xa.map (·.add (p * 1))), fun wx => ?_, fun wx hs => ?_⟩
  · have hu : Try.prog.underlying 32 = some (.slice (Try.prog.elem 32)) := by kernel_rfl
    rw [run_sliceAt_slice _ _ _ _ _ _ hu, run_slice_lh _ _ _ _ _ hu _ _ _ _ (by omega) (by omega) (by omega)]
    have hz : (sizeOf (Try.prog.elem 32)).run Try.prog wx = .ok 1 wx := by kernel_rfl
    rw [hz]
    have e1 : ((p : Int)).toNat = p := by omega
    have e2 : ((p : Int) + n).toNat = p + n := by omega
    simp only [Result.andThen, sliced, e1, e2]
    rw [show p + n - p = n by omega]
  · have hl : ((zs.drop p).take n).length = n := by rw [List.length_take, List.length_drop]; omega
    refine Bys.conv (B := wx.heap.size) ⟨hl, fun z hz => hb z (List.mem_of_mem_drop (List.mem_of_mem_take hz)), fun h0 => ?_⟩ _
    rcases hs with ⟨e1, e2⟩ | ⟨⟨g, o, spot⟩, cap, e1, hc⟩
    · rw [e2] at hp
      simp at hp; omega
    · injection e1 with e1 _ e3
      subst e1
      subst e3
      have hc' : ∀ i, i < zs.length → wx.cell? ((⟨g, o, spot⟩ : Addr).add i) = some (.int .u8 (zs.getD i 0)) := fun i hi => hc i _ (by
        unfold u8V
        rw [List.getElem?_map, List.getElem?_eq_getElem hi, Option.map_some, List.getD_eq_getElem?_getD, List.getElem?_eq_getElem hi]; rfl)
      have hsp : spot = none := by simpa [Addr.add] using World.cell?_spot (hc' 0 (by omega))
      subst hsp
      refine ⟨g, o + p, ?_, ?_, fun i hi => ?_⟩
      · rw [if_neg (by omega), Option.map_some, add_none, Nat.mul_one]
      · have := hc' 0 (by omega)
        rw [add_none] at this
        exact block_lt this
      · have := hc' (p + i) (by omega)
        rw [add_none, ← Nat.add_assoc] at this
        rw [this, List.getD_eq_getElem?_getD, List.getD_eq_getElem?_getD, List.getElem?_take_of_lt hi, List.getElem?_drop]
theorem KeepIs.bo {P : Nat → Prop} {w wx : World} {b : Bo} {S : Sh} (h : b.Ok wx w.heap.size) (hP : ∀ k, P k → w.heap.size ≤ k) (hs : w.heap.size ≤ wx.heap.size) (ho : ∀ k, S.own k → P k) : KeepIs wx S (.slice b.a b.n b.c) b.bl := by
  have hl := h.len
  cases ha : b.a with
  | none =>
    have hc := h.nil ha
    have hn : b.n = 0 := by have := h.le; omega
    have hbl : b.bl = [] := List.eq_nil_of_length_eq_zero (by omega)
    exact .inl ⟨by rw [hc, hn], hbl⟩
  | some ad =>
    refine .inr ⟨ad, b.c, by rw [hl], by rw [hl]; exact h.le, fun hz => ?_, fun j hj => ?_⟩
    · obtain ⟨g, off, e, hg, _⟩ := h.cell (by rw [← hl]; exact Nat.pos_of_ne_zero (fun e => hz (List.eq_nil_of_length_eq_zero e)))
      rw [ha] at e
      injection e with e
      subst e
      exact ⟨Nat.lt_of_lt_of_le hg hs, fun h1 => by have h9 : w.heap.size ≤ g := hP _ (ho _ h1); omega⟩
    · obtain ⟨g, off, e, hg, hc⟩ := h.cell (by omega)
      rw [ha] at e
      injection e with e
      subst e
      rw [add_none]
      exact hc j (by omega)
theorem Dw.read2 {P : Nat → Prop} {g : Nat} {w : World} {d : Dk} {c e : Nat} (h : Dw P g w d c e) {x : ByteArray} (hx : x.size ≤ maxLen) (he : e ≤ 1099511627776) {zs : List Int} {er : Int} (hd : readD d x = (zs, er)) :
    Calls Try.prog 19 #[ptrV g, .string x] w fun r w' => ∃ a k, r = .returned (.tuple #[.slice a zs.length k, .int .i64 er]) ∧ Dw (But P w w') g w' d c e ∧ KP P w w' ∧ zs.length ≤ k ∧ (∀ n ∈ zs, 0 ≤ n ∧ n ≤ 255) ∧ w'.ownsRow 0 5 1 (.slice a zs.length k) zs.length (u8V zs) ∧ ∀ k', (Value.slice a zs.length k).ownBlock = some k' → w.heap.size ≤ k' ∧ ¬ But P w w' k' := by
  have h0 := h
  obtain ⟨S, a, rfl, o, f⟩ := h
  refine (read_ok a hx he).mono fun r w' hr => ?_
  obtain ⟨v, rfl, hn⟩ := hr
  have hbd : ∀ n ∈ (readD d x).1, 0 ≤ n ∧ n ≤ 255 := by
    unfold readD
    split
    · intro n hn; cases hn
    · split
      · intro n hn; cases hn
      · rename_i F hF
        obtain ⟨z, hz, _, rfl⟩ := find_mem hF
        exact a.fs.bd z.f false (a.fs.nam0 z hz)
  obtain ⟨va, vc, hv⟩ := own_sl hn.1
  rw [hd] at hn hbd hv
  rw [hd]
  subst hv
  have hle : zs.length ≤ vc := by
    rcases hn.1.2 with ⟨e1, e0⟩ | ⟨g', cap, cur, e1, _, _, r1, _⟩
    · simp only at e0; omega
    · injection e1 with _ _ e1
      subst e1
      exact r1
  refine ⟨va, vc, rfl, h0.made hn.2.1, KP.grown hn.2.1 (fun k hk => by cases hk), hle, hbd, hn.1, fun k' hk' => ⟨hn.2.2 k' hk', fun hb => ?_⟩⟩
  obtain ⟨C, hC⟩ := row_blk hn.1 hk'
  have h1 := hC.lt
  have h2 := hn.2.2 k' hk'
  rcases hb.2 with h3 | h3 <;> omega
end Go.Proofs.Ythogdieplfpopaa
