/-
  What is proved here: a removal done to a state.
  Conditions: none.
-/
import Derived.Test.YthogdieplfpopaaDskFind
import Derived.Test.YthogdieplfpopaaFOne
namespace Go.Proofs.Ythogdieplfpopaa
open Go.RowKit Go.WideMaps Go.Maps
set_option linter.unusedVariables false
set_option linter.unusedSimpArgs false

theorem MapV.drew {w : World} {m : Option Nat} {L : List Dn} {fb : Nat → Nat} {c : Nat} (h : MapV w m L fb c) : MapV w.drew m L fb c := by
  cases m with
  | none => exact h
  | some b =>
    obtain ⟨D, n, hn, ho, hi⟩ := h
    exact ⟨D, n, hn, ho.drew, hi⟩
theorem Ds.drew {w : World} {S : Sh} {d : Dk} (h : Ds w S d) : Ds w.drew S d := ⟨h.disk, h.cut, h.lb, h.rb, h.og⟩
theorem Fs.drew {w : World} {S : Sh} {d : Dk} {c e : Nat} (h : Fs w S d c e) : Fs w.drew S d c e :=
  ⟨h.n0, h.n1, h.lt, h.file, h.row, h.bd, h.len, h.inj, h.sep, h.mp0.drew, h.mp1.drew, h.mne, h.nam0, h.nam1, h.nd0, h.nd1, h.sz0, h.sz1, h.of, h.or, h.om0, h.om1⟩
theorem Hd.drew {w : World} {S : Sh} {d : Dk} {c e : Nat} (h : Hd w S d c e) : Hd w.drew S d c e := ⟨h.ds.drew, h.fs.drew, h.sm⟩
theorem Mv.ofDrew {w w' : World} {S S' : Sh} (m : Mv w.drew w' S S') : Mv w w' S S' :=
  ⟨m.os, m.tape, m.output, m.size, fun k hk hn => m.blk k hk hn, m.frm, m.g, m.pv, m.left, m.pc, m.nf, m.fb, m.live, m.own, m.own', m.rows⟩
theorem Mv.drew {w w' : World} {S S' : Sh} (m : Mv w w' S S') : Mv w w'.drew S S' :=
  ⟨m.os, m.tape, m.output, m.size, m.blk, m.frm, m.g, m.pv, m.left, m.pc, m.nf, m.fb, m.live, m.own, m.own', m.rows⟩
/-- A name taken out of a directory. -/
theorem Hd.del {w : World} {S : Sh} {d : Dk} {c e : Nat} (h : Hd w S d c e) (s : Bool) {x : ByteArray} (hx : x.size ≤ maxLen) (ty : TypeId) :
    ∃ w', (Builtin.delete_ #[59, 9] ty #[.map (S.mp s), .string x]).run Try.prog w = .ok (.tuple #[]) w' ∧ Hd w' S (d.setN s (withoutD (d.nm s) x)) c e ∧ Mv w w' S S := by
  cases hm : S.mp s with
  | none =>
    have h1 := h.fs.mp s
    rw [hm] at h1
    have h1 : d.nm s = [] := h1
    refine ⟨w, Maps.drop_nil law_str Try.underlying59 (key_str hx) ty, ?_, Mv.refl _ _⟩
    have e : d.setN s (withoutD (d.nm s) x) = d := by
      rw [h1]
      cases s
      · have h1 : d.l = [] := h1
        show { d with l := [] } = d
        rw [← h1]
      · have h1 : d.s = [] := h1
        show { d with s := [] } = d
        rw [← h1]
    rw [e]; exact h
  | some b =>
    have h1 := h.fs.mp s
    rw [hm] at h1
    obtain ⟨w', hrun, hm', hg⟩ := h1.drop hx ty
    refine ⟨w', hrun, h.names s hm hg hm' (Nat.le_refl _) (fun y hy => h.fs.nam s y (without_mem hy).1) (without_names (h.fs.nd s)) (fun y hy => h.fs.sz s y (without_mem hy).1)⟩
set_option maxHeartbeats 1600000 in
set_option maxRecDepth 100000 in
theorem rem_ok {w : World} {S : Sh} {d : Dk} {c e : Nat} (h : Hd w S d c e) (s : Bool) {x : ByteArray} {bd bn : Nat} (hx : x.size ≤ maxLen) (hbd : Blk w bd #[ptrV S.g] 24) (hbn : Blk w bn #[.string x] 9) :
    Calls Try.prog 85 #[.int .i64 (if s = true then 1 else 0), ptrV bd, ptrV bn] w fun r w' => r = .returned (.tuple #[]) ∧ Mv w w' S S ∧ Hd w' S (d.setN s (withoutD (d.nm s) x)) c e := by
  obtain ⟨w', hrun, hh, hmv⟩ := h.drew.del s hx 0
  have hcm : w.drew.cell? ⟨S.g, if s = true then 2 else 1, none⟩ = some (.map (S.mp s)) := mp_alive h s
  have h1 : w.drew.cell? ⟨bd, 0, none⟩ = some (ptrV S.g) := hbd.cell 0
  have h2 : w.drew.cell? ⟨bn, 0, none⟩ = some (.string x) := hbn.cell 0
  have HH : Hid (Mv w w' S S ∧ Hd w' S (d.setN s (withoutD (d.nm s) x)) c e) := Lib.hid ⟨hmv.ofDrew, hh⟩
  generalize S.mp s = m at *
  clear h hx hbd hbn hh hmv
  unfold ptrV at *
  cases s
  all_goals simp only [Bool.false_eq_true, if_false, if_true] at hcm ⊢
  all_goals go_enter Try.func85, Try.ntmps85
  all_goals go_region
  all_goals go_end0
  all_goals exact ⟨rfl, HH.out⟩
end Go.Proofs.Ythogdieplfpopaa
