/-
  What is proved here: a making, a renaming done to a state.
  Conditions: none.
-/
import Derived.Test.YthogdieplfpopaaDskRem
namespace Go.Proofs.Ythogdieplfpopaa
open Go.RowKit Go.WideMaps Go.Maps
set_option linter.unusedVariables false
set_option linter.unusedSimpArgs false

set_option maxHeartbeats 1600000 in
set_option maxRecDepth 100000 in
theorem cre_ok {w : World} {S : Sh} {d : Dk} {c e : Nat} (h : Hd w S d c e) (s : Bool) {x : ByteArray} {f bd bn bf : Nat} (hx : x.size ≤ maxLen) (hc : c < maxLen) (hf : S.live f) (hbd : Blk w bd #[ptrV S.g] 24) (hbn : Blk w bn #[.string x] 9) (hbf : Blk w bf #[ptrV (S.fb f)] 73) :
    Calls Try.prog 79 #[.int .i64 (if s = true then 1 else 0), ptrV bd, ptrV bn, ptrV bf] w fun r w' => r = .returned (.tuple #[]) ∧ ∃ S', Mv w w' S S' ∧ Hd w' S' (d.setN s (withD (d.nm s) x f)) (c + 1) e := by
  have HP := Lib.hid (put_ok h s hx hc hf)
  have h1 : w.cell? ⟨bd, 0, none⟩ = some (ptrV S.g) := hbd.cell 0
  have h2 : w.cell? ⟨bn, 0, none⟩ = some (.string x) := hbn.cell 0
  have h3 : w.cell? ⟨bf, 0, none⟩ = some (ptrV (S.fb f)) := hbf.cell 0
  clear h hx hc hf hbd hbn hbf
  generalize hX : ptrV S.g = X at *
  generalize hY : ptrV (S.fb f) = Y at *
  clear hX hY
  generalize hZ : Value.int .i64 (if s = true then 1 else 0) = Z at *
  clear hZ
  unfold ptrV at *
  go_enter Try.func79, Try.ntmps79
  go_wp2_with fail
  refine HP.out.mono ?_
  rintro r w' ⟨rfl, hS⟩
  have HS := Lib.hid hS
  clear hS
  go_wp2
  go_end0
  exact ⟨rfl, HS.out⟩
theorem eql_ptr (b : Nat) (w : World) : (binOp .eql 73 (.pointer (some ⟨b, 0, none⟩)) (.pointer none)).run Try.prog w = .ok (.bool false) w := by kernel_rfl
theorem eql_nil (w : World) : (binOp .eql 73 (.pointer none) (.pointer none)).run Try.prog w = .ok (.bool true) w := by kernel_rfl
theorem setN_nm (d : Dk) (s : Bool) (L : List Dn) : (d.setN s L).nm s = L := by cases s <;> rfl
theorem setN_setN (d : Dk) (s : Bool) (L L' : List Dn) : (d.setN s L).setN s L' = d.setN s L' := by cases s <;> rfl
theorem setN_self (d : Dk) (s : Bool) : d.setN s (d.nm s) = d := by cases s <;> rfl
/-- What a renaming makes of a directory. -/
def renL (L : List Dn) (fr to : ByteArray) : List Dn :=
  match findD L fr with
  | none => L
  | some f => withD (withoutD L fr) to f
set_option maxHeartbeats 3200000 in
set_option maxRecDepth 100000 in
theorem ren_ok {w : World} {S : Sh} {d : Dk} {c e : Nat} (h : Hd w S d c e) (s : Bool) {fr to : ByteArray} {bd ba bb : Nat} (hx : fr.size ≤ maxLen) (hy : to.size ≤ maxLen) (hc : c < maxLen) (hbd : Blk w bd #[ptrV S.g] 24) (hba : Blk w ba #[.string fr] 9) (hbb : Blk w bb #[.string to] 9) :
    Calls Try.prog 84 #[.int .i64 (if s = true then 1 else 0), ptrV bd, ptrV ba, ptrV bb] w fun r w' => r = .returned (.tuple #[]) ∧ ∃ S', Mv w w' S S' ∧ Hd w' S' (d.setN s (renL (d.nm s) fr to)) (c + 1) e := by
  have hlook := (h.fs.mp s).drew.look hx
  have hcm : w.drew.cell? ⟨S.g, if s = true then 2 else 1, none⟩ = some (.map (S.mp s)) := mp_alive h s
  have h1 : w.drew.cell? ⟨bd, 0, none⟩ = some (ptrV S.g) := hbd.cell 0
  have h2 : w.drew.cell? ⟨ba, 0, none⟩ = some (.string fr) := hba.cell 0
  cases hfi : findD (d.nm s) fr with
  | none =>
    have e0 : renL (d.nm s) fr to = d.nm s := by unfold renL; rw [hfi]
    have HH : Hid (∃ S', Mv w w.drew S S' ∧ Hd w.drew S' (d.setN s (renL (d.nm s) fr to)) (c + 1) e) := Lib.hid ⟨S, (Mv.refl w S).drew, by
      rw [e0, setN_self]
      exact ⟨h.ds.drew, ⟨h.fs.n0, h.fs.n1, h.fs.lt, h.fs.file, h.fs.row, h.fs.bd, h.fs.len, h.fs.inj, h.fs.sep, h.fs.mp0.drew.up (Nat.le_succ _), h.fs.mp1.drew.up (Nat.le_succ _), h.fs.mne, h.fs.nam0, h.fs.nam1, h.fs.nd0, h.fs.nd1, h.fs.sz0, h.fs.sz1, h.fs.of, h.fs.or, h.fs.om0, h.fs.om1⟩, h.sm⟩⟩
    rw [hfi] at hlook
    have hq := eql_nil w.drew
    simp only [fileP] at hlook
    clear h hx hy hc hbd hba hbb e0 hfi
    generalize S.mp s = m at *
    unfold ptrV at *
    cases s
    all_goals simp only [Bool.false_eq_true, if_false, if_true] at hcm ⊢
    all_goals go_enter Try.func84, Try.ntmps84
    all_goals go_wp2_with fail
    all_goals go_region
    all_goals go_wp2
    all_goals refine bodyPost_ret (results_none rfl _ _ _) rfl ?_
    all_goals exact ⟨rfl, HH.out⟩
  | some f =>
    have e0 : renL (d.nm s) fr to = withD (withoutD (d.nm s) fr) to f := by unfold renL; rw [hfi]
    have hlf : S.live f := by
      obtain ⟨y, hy1, _, hy3⟩ := find_mem hfi
      rw [← hy3]; exact h.fs.nam s y hy1
    rw [hfi] at hlook
    simp only [fileP] at hlook
    have hq := eql_ptr (S.fb f) w.drew
    obtain ⟨w1, hrun, hh, hmv⟩ := h.drew.drew.del s hx 0
    have hp := put_ok hh s hy hc hlf
    rw [setN_nm, setN_setN, ← e0] at hp
    have HP := Lib.hid hp
    have HM := Lib.hid hmv
    have hcm2 : w.drew.drew.cell? ⟨S.g, if s = true then 2 else 1, none⟩ = some (.map (S.mp s)) := mp_alive h s
    have h3 : w.drew.drew.cell? ⟨bd, 0, none⟩ = some (ptrV S.g) := hbd.cell 0
    have h4 : w.drew.drew.cell? ⟨ba, 0, none⟩ = some (.string fr) := hba.cell 0
    have h5 : w1.cell? ⟨bd, 0, none⟩ = some (ptrV S.g) := (hmv.blk' (k := bd) (C := #[ptrV S.g]) (t := 24) hbd (by decide) (by decide) (by decide)).cell 0
    have h6 : w1.cell? ⟨bb, 0, none⟩ = some (.string to) := (hmv.blk' (k := bb) (C := #[.string to]) (t := 9) hbb (by decide) (by decide) (by decide)).cell 0
    clear h hx hy hc hbd hba hbb e0 hfi hmv hp hh hlf
    generalize S.mp s = m at *
    unfold ptrV at *
    cases s
    all_goals simp only [Bool.false_eq_true, if_false, if_true] at hcm hcm2 HP ⊢
    all_goals go_enter Try.func84, Try.ntmps84
    all_goals go_wp2_with fail
    all_goals go_region
    all_goals go_wp2_with fail
    all_goals go_region
    all_goals go_wp2_with fail
    all_goals refine HP.out.mono ?_
    all_goals rintro r w' ⟨rfl, S', m1, h1⟩
    all_goals have HX : Hid (∃ S', Mv w w' S S' ∧ Hd w' S' (d.setN _ (renL (d.nm _) fr to)) (c + 1) e) := Lib.hid ⟨S', HM.out.ofDrew.ofDrew.trans m1, h1⟩
    all_goals clear m1 h1
    all_goals go_wp2
    all_goals go_end0
    all_goals exact ⟨rfl, HX.out⟩
end Go.Proofs.Ythogdieplfpopaa
