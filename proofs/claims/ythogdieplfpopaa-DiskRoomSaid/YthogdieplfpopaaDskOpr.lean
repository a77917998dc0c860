/-
  What is proved here: operate of package disk.
  Conditions: none.
-/
import Derived.Test.YthogdieplfpopaaDskMk
namespace Go.Proofs.Ythogdieplfpopaa
open Go.RowKit Go.WideMaps Go.Maps
set_option linter.unusedVariables false
set_option linter.unusedSimpArgs false

def Sh.setL (S : Sh) (l : Int) : Sh := { S with left := l }
def Dk.setO (d : Dk) (o : Bool) (l : Int) : Dk := { d with off := o, cut := if 0 < l then l else 0 }
/-- The count and the power turn. -/
theorem At.cells {w w' : World} {S : Sh} {d : Dk} {c e : Nat} (h : At w S d c e) (l : Int) (o : Bool) (hg : w.grownBy w' (some S.g)) (hb : Blk w' S.g #[.int .i64 d.room, .map S.m0, .map S.m1, S.pv, .int .i64 l, .bool o] 63) (hl : -9223372036854775808 ≤ l ∧ l ≤ 9223372036854775807) :
    At w' (S.setL l) (d.setO o l) c e ∧ Fr w w' S (S.setL l) := by
  have f := h.fs.turn hg (fun k hk => by injection hk with hk; subst hk; exact ⟨_, _, h.ds.disk, by decide, by decide⟩)
  have hkt : ∀ k C t, Blk w k C t → t ≠ 63 → t ≠ 83 → w'.heap[k]? = w.heap[k]? := fun k C t hB h1 _ => hg.block k hB.lt (fun ee => by injection ee with ee; exact blk_ne hB h.ds.disk h1 ee)
  refine ⟨⟨⟨hb, rfl, hl, h.ds.rb, h.ds.og⟩, ?_, ?_, fun k hk => Nat.lt_of_lt_of_le (h.sm k hk) hg.size⟩, ?_⟩
  · exact ⟨f.n0, f.n1, f.lt, f.file, f.row, f.bd, f.len, f.inj, f.sep, f.mp0, f.mp1, f.mne, f.nam0, f.nam1, f.nd0, f.nd1, f.sz0, f.sz1, f.of, f.or, f.om0, f.om1⟩
  · refine ⟨?_, fun j hj => (h.pn.ops j hj).keepx hkt rfl (fun _ => rfl) rfl (fun _ _ => rfl) (fun _ h => h), h.pn.le, h.pn.op⟩
    exact row_keep h.pn.pend hg fun k hk hkk => by
      injection hk with hk
      subst hk
      exact row_blk_ne h.pn.pend h.ds.disk (by decide) hkk
  · exact ⟨hg.os, hg.tape, hg.output, hg.size, fun k hk hn => hg.block k hk (fun ee => by injection ee with ee; subst ee; exact hn h.ds.og), rfl, fun k hk => .inl hk⟩
theorem Pn.up {w : World} {S : Sh} {d : Dk} {c c' e : Nat} (h : Pn w S d c e) (hc : c ≤ c') : Pn w S d c' e := ⟨h.pend, h.ops, Nat.le_trans h.le hc, h.op⟩
theorem At.up {w : World} {S : Sh} {d : Dk} {c c' e : Nat} (h : At w S d c e) (hc : c ≤ c') : At w S d c' e := ⟨h.ds, h.fs.up hc (Nat.le_refl _), h.pn.up hc, h.sm⟩
def opD (d : Dk) (er : Int) (dn : Dk) : Dk × Int := if d.off = true then (d, 23) else if er ≠ 0 then (d, er) else if lostD d = true then (powerD d, 23) else (dn, 0)
def OpPost (w : World) (S : Sh) (d : Dk × Int) (c e : Nat) (r : Ending) (w' : World) : Prop := r = .returned (.int .i64 d.2) ∧ ∃ S', At w' S' d.1 c e ∧ Fr w w' S S'
set_option maxHeartbeats 3200000 in
set_option maxRecDepth 100000 in
theorem operate_ok {w : World} {S : Sh} {d dn : Dk} {c c' e : Nat} (h : At w S d c e) (hcc : c ≤ c') (n1 n2 : Nat) (k1 k2 : Array Value) (er : Int) (hn1 : ∀ w, Sem.run Try.prog (callFunc n1 k1) w = .ok (.enter n1 k1) w) (hn2 : ∀ w, Sem.run Try.prog (callFunc n2 k2) w = .ok (.enter n2 k2) w)
    (hchk : d.off = false → Calls Try.prog n1 k1 w fun r w1 => r = .returned (.int .i64 er) ∧ At w1 S d c e ∧ Fr w w1 S S)
    (hprf : d.off = false → er = 0 → ∀ w2 S2, At w2 S2 (powerD d) c e → Fr w w2 S S2 → Calls Try.prog n2 k2 w2 (fun r w' => r = .returned (.tuple #[]) ∧ ∃ S', At w' S' dn c' e ∧ Fr w2 w' S2 S')) :
    Calls Try.prog 40 #[ptrV S.g, .func (.func n1) #[] k1, .func (.func n2) #[] k2] w (OpPost w S (opD d er dn) c' e) := by
  have hready := ready_ok h.ds
  cases hoff : d.off with
  | true =>
    rw [hoff] at hready
    simp only [if_true] at hready
    have HR := Lib.hid hready
    have HE : Hid (∃ S', At w S' d c' e ∧ Fr w w S S') := Lib.hid ⟨S, h.up (hcc), Fr.refl _ _⟩
    have e0 : opD d er dn = (d, 23) := by unfold opD; rw [if_pos hoff]
    rw [e0]
    clear e0 hready h hchk hprf hoff
    unfold ptrV at *
    go_enter Try.func40, Try.ntmps40
    go_wp2_with fail
    refine HR.out.mono ?_
    rintro r w' ⟨rfl, rfl⟩
    go_wp2
    go_ret
    exact ⟨rfl, HE.out⟩
  | false =>
    rw [hoff] at hready
    simp only [Bool.false_eq_true, if_false] at hready
    have HR := Lib.hid hready
    have HC := Lib.hid (hchk hoff)
    by_cases her : er = 0
    · subst her
      have HP := Lib.hid (hprf hoff rfl)
      have HO := Lib.hid hoff
      have hcut := h.ds.cut
      have hlb := h.ds.lb
      by_cases h1 : S.left = 1
      · have hc1 : d.cut = 1 := by rw [hcut, h1]; rfl
        have eop : opD d 0 dn = (d.setO true 0, 23) := by
          unfold opD lostD powerD
          rw [if_neg (by rw [hoff]; decide), if_neg (by simp), if_pos (by simp [hc1])]
          simp [hc1, Dk.setO]
        have HE : Hid (∀ w1, At w1 S d c e → Fr w w1 S S → (∃ v, w1.cell? ⟨S.g, 4, none⟩ = some v) ∧ w1.cell? ⟨S.g, 4, none⟩ = some (.int .i64 1) ∧ w1.frozen? ⟨S.g, 4, none⟩ = false ∧ (∃ v, (w1.setCell ⟨S.g, 4, none⟩ (.int .i64 0)).cell? ⟨S.g, 5, none⟩ = some v) ∧ (w1.setCell ⟨S.g, 4, none⟩ (.int .i64 0)).frozen? ⟨S.g, 5, none⟩ = false ∧
            Hid (OpPost w S (opD d 0 dn) c' e (.returned (.int .i64 23)) ((w1.setCell ⟨S.g, 4, none⟩ (.int .i64 0)).setCell ⟨S.g, 5, none⟩ (.bool true)))) := Lib.hid (by
          intro w1 a1 a2
          have hb := a1.ds.disk
          have hb1 := hb.put 4 (.int .i64 0)
          have hb2 := hb1.put 5 (.bool true)
          have hg : w1.grownBy ((w1.setCell ⟨S.g, 4, none⟩ (.int .i64 0)).setCell ⟨S.g, 5, none⟩ (.bool true)) (some S.g) := by
            have g1 := grown_set w1 S.g 4 (.int .i64 0)
            have g2 := grown_set (w1.setCell ⟨S.g, 4, none⟩ (.int .i64 0)) S.g 5 (.bool true)
            exact ⟨g2.os.trans g1.os, g2.tape.trans g1.tape, g2.output.trans g1.output, Nat.le_trans g1.size g2.size, fun k hk hn => by rw [g2.block k (Nat.lt_of_lt_of_le hk g1.size) hn, g1.block k hk hn]⟩
          refine ⟨⟨_, hb.cell 4⟩, ?_, hb.frozen 4, ⟨_, hb1.cell 5⟩, hb1.frozen 5, Lib.hid ?_⟩
          · have := (ds_cells a1.ds).2.2.2.2.1
            rw [h1] at this; exact this
          · rw [eop]
            obtain ⟨r1, r2⟩ := At.cells a1 0 true hg (by simpa [dskC] using hb2) (by omega)
            exact ⟨rfl, _, r1.up (hcc), a2.trans r2⟩)
        clear hready hchk hprf h hoff hcut hlb h1 hc1 eop HP HO
        unfold ptrV at *
        go_enter Try.func40, Try.ntmps40
        go_wp2_with fail
        refine HR.out.mono ?_
        rintro r w' ⟨rfl, rfl⟩
        go_wp2_with fail
        refine HC.out.mono ?_
        rintro r w1 ⟨rfl, a1, a2⟩
        obtain ⟨⟨v4, q1⟩, q2, q3, ⟨v5, q4⟩, q5, q6⟩ := HE.out w1 a1 a2
        clear a1 a2 HE q1
        go_wp2
        go_ret
        exact q6.out
      · by_cases h2 : 1 < S.left
        · have hc2 : d.cut = S.left := by rw [hcut, if_pos (by omega)]
          have hpw : powerD d = d.setO false (S.left - 1) := by
            unfold powerD Dk.setO
            rw [if_neg (by omega), hc2]
            have e1 : decide (S.left - 1 = 0) = false := by simp; omega
            rw [e1, if_pos (show (0 : Int) < S.left - 1 by omega)]
          have eop : opD d 0 dn = (dn, 0) := by
            unfold opD lostD
            rw [if_neg (by rw [hoff]; decide), if_neg (by simp), if_neg (by simp [hc2]; omega)]
          have HE : Hid (∀ w1, At w1 S d c e → Fr w w1 S S → w1.cell? ⟨S.g, 4, none⟩ = some (.int .i64 S.left) ∧ w1.frozen? ⟨S.g, 4, none⟩ = false ∧
              Hid (Calls Try.prog n2 k2 (w1.setCell ⟨S.g, 4, none⟩ (.int .i64 (S.left - 1))) fun r w' => r = .returned (.tuple #[]) ∧ Hid (OpPost w S (opD d 0 dn) c' e (.returned (.int .i64 0)) w'))) := Lib.hid (by
            intro w1 a1 a2
            have hb := a1.ds.disk
            have hb1 := hb.put 4 (.int .i64 (S.left - 1))
            obtain ⟨r1, r2⟩ := At.cells a1 (S.left - 1) false (grown_set w1 S.g 4 (.int .i64 (S.left - 1))) (by have := HO.out; simpa [dskC, this] using hb1) (by omega)
            refine ⟨(ds_cells a1.ds).2.2.2.2.1, hb.frozen 4, Lib.hid ?_⟩
            rw [← hpw] at r1
            refine (HP.out _ _ r1 (a2.trans r2)).mono fun r w' hr => ?_
            obtain ⟨t1, S', t2, t3⟩ := hr
            refine ⟨t1, Lib.hid ?_⟩
            rw [eop]
            exact ⟨rfl, S', t2, (a2.trans r2).trans t3⟩)
          clear hready hchk hprf h hoff hcut hc2 hpw eop HP HO
          unfold ptrV at *
          go_enter Try.func40, Try.ntmps40
          go_wp2_with fail
          refine HR.out.mono ?_
          rintro r w' ⟨rfl, rfl⟩
          go_wp2_with fail
          refine HC.out.mono ?_
          rintro r w1 ⟨rfl, a1, a2⟩
          obtain ⟨q1, q2, q3⟩ := HE.out w1 a1 a2
          clear a1 a2 HE
          go_wp2_with fail
          refine q3.out.mono ?_
          rintro r w3 ⟨rfl, q4⟩
          go_wp2
          go_ret
          exact q4.out
        · have hc0 : d.cut = 0 := by rw [hcut, if_neg (by omega)]
          have hpw : powerD d = d := by unfold powerD; rw [if_pos hc0]
          have eop : opD d 0 dn = (dn, 0) := by
            unfold opD lostD
            rw [if_neg (by rw [hoff]; decide), if_neg (by simp), if_neg (by simp [hc0])]
          have HE : Hid (∀ w1, At w1 S d c e → Fr w w1 S S → w1.cell? ⟨S.g, 4, none⟩ = some (.int .i64 S.left) ∧
              Hid (Calls Try.prog n2 k2 w1 fun r w' => r = .returned (.tuple #[]) ∧ Hid (OpPost w S (opD d 0 dn) c' e (.returned (.int .i64 0)) w'))) := Lib.hid (by
            intro w1 a1 a2
            refine ⟨(ds_cells a1.ds).2.2.2.2.1, Lib.hid ?_⟩
            refine (HP.out _ _ (by rw [hpw]; exact a1) a2).mono fun r w' hr => ?_
            obtain ⟨t1, S', t2, t3⟩ := hr
            refine ⟨t1, Lib.hid ?_⟩
            rw [eop]
            exact ⟨rfl, S', t2, a2.trans t3⟩)
          have h3 : S.left < 1 := by omega
          clear hready hchk hprf h hoff hcut hc0 hpw eop HP HO
          unfold ptrV at *
          go_enter Try.func40, Try.ntmps40
          go_wp2_with fail
          refine HR.out.mono ?_
          rintro r w' ⟨rfl, rfl⟩
          go_wp2_with fail
          refine HC.out.mono ?_
          rintro r w1 ⟨rfl, a1, a2⟩
          obtain ⟨q1, q3⟩ := HE.out w1 a1 a2
          clear a1 a2 HE
          go_wp2_with fail
          refine q3.out.mono ?_
          rintro r w3 ⟨rfl, q4⟩
          go_wp2
          go_ret
          exact q4.out
    · have HE : Hid (∀ w1, At w1 S d c e → Fr w w1 S S → OpPost w S (opD d er dn) c' e (.returned (.int .i64 er)) w1) := Lib.hid (by
        intro w1 h1 h2
        unfold opD
        rw [if_neg (by rw [hoff]; decide), if_pos her]
        exact ⟨rfl, S, h1.up (hcc), h2⟩)
      clear hready hchk hprf h hoff
      unfold ptrV at *
      go_enter Try.func40, Try.ntmps40
      go_wp2_with fail
      refine HR.out.mono ?_
      rintro r w' ⟨rfl, rfl⟩
      go_wp2_with fail
      refine HC.out.mono ?_
      rintro r w1 ⟨rfl, h1, h2⟩
      have HX := Lib.hid (HE.out _ h1 h2)
      clear h1 h2
      go_wp2
      go_ret
      exact HX.out
end Go.Proofs.Ythogdieplfpopaa
