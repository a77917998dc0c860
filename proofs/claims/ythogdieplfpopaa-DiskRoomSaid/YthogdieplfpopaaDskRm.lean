/-
  What is proved here: plain words for DiskRoom: what a round makes of a disk; 'name'.
  Conditions: none.
-/
import Derived.Test.YthogdieplfpopaaDskAwk
import Derived.Test.YthogdieplfpopaaMask
namespace Go.Proofs.Ythogdieplfpopaa
open Go.RowKit Go.WideMaps Go.Maps
set_option linter.unusedVariables false
set_option linter.unusedSimpArgs false

theorem RoomD.setRoom {d : Dk} (h : RoomD d) {r : Int} (hr : usedD d ≤ r) (h0 : 0 ≤ r) : RoomD { d with room := r } :=
  ⟨h.kinds, h.names, h.nodup, h.fnod, h.lt, h.len, h.le, h.wr, hr, h0⟩
/-- A round's disk: n bytes at most, k operations pending at most. -/
structure Rnd (d : Dk) (R n : Int) (k : Nat) : Prop where
  rc : RoomC d
  room : d.room = R
  used : usedD d ≤ n
  wait : d.wait.length ≤ k
theorem Rnd.up {d : Dk} {R n n' : Int} {k k' : Nat} (h : Rnd d R n k) (hn : n ≤ n') (hk : k ≤ k') : Rnd d R n' k' := ⟨h.rc, h.room, Int.le_trans h.used hn, Nat.le_trans h.wait hk⟩
theorem Rnd.start (room : Int) : Rnd (dk0 room) (if room < 0 then 0 else room) 0 0 := ⟨room_new room, rfl, Int.le_refl _, Nat.le_refl _⟩
theorem power_off {d : Dk} (h : RoomC d) : powerD d = d ∧ lostD d = false := by
  refine ⟨by unfold powerD; rw [if_pos h.cut], ?_⟩
  unfold lostD
  rw [h.cut]; rfl
theorem do_ok {d : Dk} (h : RoomC d) (k : Nat) (a b : ByteArray) (p : Int) (L : List Int) : doD d k a b p L = if errD d k a b p L ≠ 0 then (d, errD d k a b p L) else (doneD d k a b p.toNat L, 0) := by
  obtain ⟨h1, h2⟩ := power_off h
  unfold doD
  rw [h1, h2]
  simp
theorem usedD_room (d : Dk) (r : Int) : usedD { d with room := r } = usedD d := rfl
theorem Rnd.create {d : Dk} {R n : Int} {k : Nat} (h : Rnd d R n k) (a : ByteArray) : Rnd (doD d 1 a .empty 0 []).1 R n (k + 1) ∧ (doD d 1 a .empty 0 []).2 ≠ 23 := by
  obtain ⟨h1, h2, h3⟩ := h.rc.create a .empty 0 []
  refine ⟨⟨h1, h3.trans h.room, ?_, ?_⟩, h2⟩
  · rw [do_ok h.rc]
    by_cases he : errD d 1 a .empty 0 [] ≠ 0
    · rw [if_pos he]; exact h.used
    · rw [if_neg he]
      have h0 : errD d 1 a .empty 0 [] = 0 := by omega
      unfold errD at h0
      rw [if_neg (by rw [h.rc.off]; decide), if_pos rfl] at h0
      by_cases h2 : a = .empty
      · rw [if_pos h2] at h0; cases h0
      rw [if_neg h2] at h0
      cases hf : findD d.l a with
      | some f => rw [hf] at h0; cases h0
      | none =>
        have hm := (h.rc.rd.setRoom (Int.le_refl _) (sizes_nonneg d.is d.l)).make (b := .empty) (p := 0) (body := []) (show findD { d with room := usedD d }.l a = none from hf)
        have hu := hm.used
        have e1 : usedD (doneD { d with room := usedD d } 1 a .empty 0 []) = usedD (doneD d 1 a .empty 0 []) := rfl
        have e2 : (doneD { d with room := usedD d } 1 a .empty 0 []).room = usedD d := rfl
        rw [e1, e2] at hu
        have := h.used
        show usedD (doneD d 1 a .empty 0 []) ≤ n
        omega
  · rw [do_ok h.rc]
    have := h.wait
    by_cases he : errD d 1 a .empty 0 [] ≠ 0
    · rw [if_pos he]; show d.wait.length ≤ k + 1; omega
    · rw [if_neg he]
      show (doneD d 1 a .empty 0 []).wait.length ≤ k + 1
      unfold doneD
      rw [if_pos rfl]
      unfold waitD
      rw [if_neg (show ¬ (2 : Nat) = 1 by decide)]
      simp; omega
/-- A write that is done: the file holds it. -/
theorem write_done {d : Dk} (h : RoomC d) {a : ByteArray} {p : Int} {L : List Int} (he : errD d 2 a .empty p L = 0) :
    ∃ f, findD d.l a = some f ∧ 0 ≤ p ∧ p ≤ (d.is.getD f []).length ∧ ¬ (((d.is.getD f []).length : Int) < p + L.length ∧ d.room - usedD d < p + L.length - (d.is.getD f []).length) ∧ f < d.is.length ∧ (doneD d 2 a .empty p.toNat L).l = d.l ∧ (doneD d 2 a .empty p.toNat L).is.getD f [] = laidD (d.is.getD f []) p.toNat L := by
  unfold errD at he
  rw [if_neg (by rw [h.off]; decide), if_neg (by decide), if_pos rfl] at he
  cases hf : findD d.l a with
  | none => rw [hf] at he; cases he
  | some f =>
    rw [hf] at he
    simp only at he
    by_cases h2 : p < 0 ∨ ((d.is.getD f []).length : Int) < p
    · rw [if_pos h2] at he; cases he
    rw [if_neg h2] at he
    by_cases h3 : ((d.is.getD f []).length : Int) < p + L.length ∧ d.room - usedD d < p + L.length - (d.is.getD f []).length
    · rw [if_pos h3] at he; cases he
    have hlt := h.rd.lt _ (find_memR hf)
    refine ⟨f, rfl, by omega, by omega, h3, hlt, ?_, ?_⟩
    · unfold doneD
      rw [if_neg (by decide), if_pos rfl]
      unfold waitD
      rw [if_pos rfl]
    · unfold doneD
      rw [if_neg (by decide), if_pos rfl, hf]
      unfold waitD
      rw [if_pos rfl]
      simp only [Option.getD_some]
      rw [List.getD_eq_getElem?_getD, List.getElem?_set_self hlt]; rfl
theorem Rnd.write {d : Dk} {R n : Int} {k : Nat} (h : Rnd d R n k) (a : ByteArray) (p : Int) (L : List Int) : Rnd (doD d 2 a .empty p L).1 R (n + L.length) (k + 1) := by
  obtain ⟨h1, h2, h3⟩ := h.rc.write a .empty p L
  refine ⟨h1, h3.trans h.room, ?_, ?_⟩
  · rw [do_ok h.rc]
    have hu := h.used
    by_cases he : errD d 2 a .empty p L ≠ 0
    · rw [if_pos he]; show usedD d ≤ _; omega
    · rw [if_neg he]
      obtain ⟨f, hf, p0, p1, _, hlt, _, _⟩ := write_done h.rc (by omega : errD d 2 a .empty p L = 0)
      have hn := sizes_nonneg d.is d.l
      have hn2 : 0 ≤ usedD d := hn
      have hm := (h.rc.rd.setRoom (r := usedD d + L.length) (by omega) (by omega)).write (a := a) (b := .empty) (p := p.toNat) (f := f) (body := L) hf (by show p.toNat ≤ (d.is.getD f []).length; omega) (by
        intro h5
        have h6 := h5.2
        have e1 : usedD { d with room := usedD d + L.length } = usedD d := rfl
        rw [e1] at h6
        have h7 : (usedD d + L.length - usedD d : Int) < p.toNat + L.length - (d.is.getD f []).length := h6
        omega)
      have hu2 := hm.used
      have e1 : usedD (doneD { d with room := usedD d + L.length } 2 a .empty p.toNat L) = usedD (doneD d 2 a .empty p.toNat L) := by
        unfold doneD waitD
        rfl
      have e2 : (doneD { d with room := usedD d + L.length } 2 a .empty p.toNat L).room = usedD d + L.length := rfl
      rw [e1, e2] at hu2
      show usedD (doneD d 2 a .empty p.toNat L) ≤ _
      omega
  · rw [do_ok h.rc]
    have := h.wait
    by_cases he : errD d 2 a .empty p L ≠ 0
    · rw [if_pos he]; show d.wait.length ≤ k + 1; omega
    · rw [if_neg he]
      show (doneD d 2 a .empty p.toNat L).wait.length ≤ k + 1
      unfold doneD
      rw [if_neg (by decide), if_pos rfl]
      unfold waitD
      rw [if_pos rfl]
      simp; omega
theorem Rnd.crash {d : Dk} {R n : Int} {k : Nat} (h : Rnd d R n k) (kl : List Bool) : Rnd (crashD d kl) R n 0 := by
  obtain ⟨h1, h2⟩ := h.rc.crash kl
  refine ⟨h1, h2.trans h.room, ?_, Nat.le_refl _⟩
  have hc := (RoomD.crash (h.rc.rd.setRoom (Int.le_refl _) (sizes_nonneg d.is d.l)) kl)
  have hu := hc.1.used
  rw [hc.2] at hu
  have hs : ∀ (w : List Do) (i : Nat) (e : Dk) (r : Int), settleD (fun i _ => kl.getD i false) i w { e with room := r } = { settleD (fun i _ => kl.getD i false) i w e with room := r } := by
    intro w
    induction w with
    | nil => intro i e r; rfl
    | cons o t ih =>
      intro i e r
      unfold settleD
      split
      · split
        · exact ih (i + 1) { e with su := e.su.set o.f (laidD (e.su.getD o.f []) o.p o.b) } r
        · exact ih (i + 1) { e with s := namesD e.s o } r
      · exact ih (i + 1) { e with wait := e.wait ++ [o] } r
  have e1 : usedD (crashD { d with room := usedD d } kl) = usedD (crashD d kl) := by
    unfold crashD settledD
    have := hs d.wait 0 { d with wait := [] } (usedD d)
    show usedD { settleD _ 0 d.wait { { d with wait := [] } with room := usedD d } with wait := _, off := _, cut := _, l := _, is := _ } = _
    rw [this]; rfl
  rw [e1] at hu
  have e2 : ({ d with room := usedD d } : Dk).room = usedD d := rfl
  rw [e2] at hu
  have := h.used
  omega
/-- What was written is read. -/
theorem laid_piece {s : List Int} {p : Nat} {b : List Int} (hp : p ≤ s.length) : p + b.length ≤ (laidD s p b).length ∧ ((laidD s p b).drop p).take b.length = b := by
  refine ⟨by rw [laid_lenR]; omega, ?_⟩
  unfold laidD
  have e1 : ((s ++ List.replicate (p - s.length) 0).take p).length = p := by rw [List.length_take, List.length_append]; omega
  rw [List.drop_append_of_le_length (by omega), List.drop_eq_nil_of_le (by omega), List.nil_append, List.take_append_of_le_length (Nat.le_refl _), List.take_length]
theorem Rnd.read {d : Dk} {R n : Int} {k : Nat} (h : Rnd d R n k) {a : ByteArray} {p : Int} {L : List Int} (he : (doD d 2 a .empty p L).2 = 0) :
    0 ≤ p ∧ ∃ zs, readD (doD d 2 a .empty p L).1 a = (zs, 0) ∧ p.toNat + L.length ≤ zs.length ∧ (zs.drop p.toNat).take L.length = L := by
  have hof := (h.rc.write a .empty p L).1.off
  rw [do_ok h.rc] at he hof ⊢
  by_cases h0 : errD d 2 a .empty p L ≠ 0
  · rw [if_pos h0] at he; exact absurd he h0
  · rw [if_neg h0] at hof ⊢
    obtain ⟨f, hf, p0, p1, _, hlt, q1, q2⟩ := write_done h.rc (by omega : errD d 2 a .empty p L = 0)
    obtain ⟨s1, s2⟩ := laid_piece (s := d.is.getD f []) (p := p.toNat) (b := L) (by omega)
    refine ⟨p0, laidD (d.is.getD f []) p.toNat L, ?_, s1, s2⟩
    unfold readD
    rw [if_neg (by rw [hof]; decide), q1, hf]
    simp only
    rw [q2]
/-! ### names -/
def nB : ByteArray := ⟨#[98]⟩
def nC : ByteArray := ⟨#[99]⟩
def nmN : Nat → ByteArray
  | 0 => nA
  | 1 => nB
  | 2 => nC
  | _ => ⟨#[]⟩
def nmI (i : Int) : ByteArray := nmN (bits .and .i64 i 3).toNat
theorem nmI_sz (i : Int) : (nmI i).size ≤ maxLen := by
  unfold nmI
  rcases (bits .and .i64 i 3).toNat with _ | _ | _ | n
  · exact (by decide +kernel)
  · exact (by decide +kernel)
  · exact (by decide +kernel)
  · exact show (⟨#[]⟩ : ByteArray).size ≤ maxLen from by decide +kernel
set_option maxHeartbeats 3200000 in
theorem name_ok (w : World) (i : Int) : Calls Try.prog 27 #[.int .i64 i] w fun r w' => r = .returned (.string (nmI i)) ∧ w.grownBy w' none := by
  obtain ⟨m, hm, hand⟩ := i64_mask i 3 (by decide)
  have hand : bits .and .i64 i 3 = (m : Int) := hand
  unfold nmI
  have hg := Lib.hid (fun o => World.grownBy_alloc w o none)
  rcases (show m = 0 ∨ m = 1 ∨ m = 2 ∨ m = 3 by omega) with rfl | rfl | rfl | rfl
  all_goals rw [hand]
  all_goals go_enter Try.func27, Try.ntmps27
  all_goals go_wp2
  all_goals go_ret
  all_goals exact ⟨rfl, hg.out _⟩
end Go.Proofs.Ythogdieplfpopaa
