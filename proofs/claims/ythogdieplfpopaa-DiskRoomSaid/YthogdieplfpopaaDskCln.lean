/-
  What is proved here: bytes.Clone; Cut, Off, Pending, New, Read of package disk.
  Conditions: none.
-/
import Derived.Test.YthogdieplfpopaaDskM1
namespace Go.Proofs.Ythogdieplfpopaa
open Go.RowKit Go.WideMaps Go.Maps
set_option linter.unusedVariables false
set_option linter.unusedSimpArgs false

/-- A slice that reads as zs. -/
def Src (w : World) (v : Value) (zs : List Int) : Prop := (v = .slice none 0 0 ∧ zs = []) ∨ ∃ ad cap, v = .slice (some ad) zs.length cap ∧ ∀ j u, (u8V zs)[j]? = some u → w.cell? (ad.add j) = some u
theorem Src.own {w : World} {base : Nat} {v : Value} {zs : List Int} (h : w.ownsRow base 5 1 v zs.length (u8V zs)) : Src w v zs := by
  rcases h.2 with ⟨rfl, e0⟩ | ⟨g, cap, cur, rfl, hb, hg, r⟩
  · exact .inl ⟨rfl, List.eq_nil_of_length_eq_zero e0⟩
  · exact .inr ⟨_, cap, rfl, h.cells (g := g) rfl⟩
theorem Src.drew {w : World} {v : Value} {zs : List Int} (h : Src w v zs) : Src w.drew v zs := h
/-- A row of the call's own, new. -/
def New1 (w w' : World) (v : Value) (zs : List Int) : Prop := w'.ownsRow 0 5 1 v zs.length (u8V zs) ∧ w.grownBy w' none ∧ ∀ k, v.ownBlock = some k → w.heap.size ≤ k
theorem eqs_nil (w : World) : (binOp .eql 32 (.slice none 0 0) (.slice none 0 0)).run Try.prog w = .ok (.bool true) w := by kernel_rfl
theorem eqs_some (a : Addr) (n c : Nat) (w : World) : (binOp .eql 32 (.slice (some a) n c) (.slice none 0 0)).run Try.prog w = .ok (.bool false) w := by kernel_rfl
set_option maxHeartbeats 1600000 in
theorem clone_ok {w : World} {v : Value} {zs : List Int} (h : Src w v zs) (hl : zs.length ≤ 1099511627776) :
    Calls Try.prog 47 #[v] w fun r w' => ∃ v', r = .returned v' ∧ New1 w w' v' zs := by
  obtain ⟨i0, hi, hz0, hz1, hz2⟩ := info_parts info_u8
  have HI := Lib.hid hi
  have HZ0 := Lib.hid hz0
  have HZ1 := Lib.hid hz1
  have HZ2 := Lib.hid hz2
  clear hi hz0 hz1 hz2
  rcases h with ⟨rfl, rfl⟩ | ⟨ad, cap, rfl, hc⟩
  · have hq := eqs_nil w
    go_enter Try.func47, Try.ntmps47
    go_wp2
    go_ret
    exact ⟨_, rfl, World.ownsRow_nil _ _ _ _, gr_refl w, fun k hk => by cases hk⟩
  · have hq := eqs_some ad zs.length cap w
    have HC := Lib.hid hc
    obtain ⟨n, hn⟩ : ∃ n, zs.length = n := ⟨_, rfl⟩
    have HN := Lib.hid hn
    rw [hn] at hq hl ⊢
    have hlu : Hid ((u8V zs).length = n) := Lib.hid (by simp [u8V, hn])
    clear hc hn
    have HONE : Hid (∀ x ∈ u8V zs, x.oneCell' = true) := Lib.hid (fun x hx => by
      unfold u8V at hx
      obtain ⟨z, _, rfl⟩ := List.mem_map.1 hx
      rfl)
    go_enter Try.func47, Try.ntmps47
    go_wp2_with (at_builtin; refine wpList_append_own _ rfl _ _ 32 rfl w.heap.size 5 i0 (.int .u8 0) 1 1 Try.underlying32 HI.out HZ0.out HZ1.out HZ2.out rfl (by decide) _ 0 [] rfl ?d0 ad n cap (u8V zs) rfl ?d1 ?d2 HONE.out ?d3 ?d4 ?d5 ?_)
    case d0 => exact World.ownsRow_made w #[] 0 (Nat.le_refl _) (Nat.zero_le _) rfl
    case d1 => rw [hlu.out, Nat.mul_one]
    case d2 => intro j u hj; rw [World.cell?_of_block (Below.heap_alloc w _ _ (World.block_lt_of_cell? w _ (HC.out j u hj)))]; exact HC.out j u hj
    case d3 => unfold maxLen; omega
    case d4 => omega
    case d5 => simp
    intro v' w' ho hg _
    obtain ⟨qa, qc, rfl⟩ := own_sl ho
    have HX : Hid (New1 w w' (.slice qa n qc) zs) := Lib.hid (by
      refine ⟨?_, ⟨hg.os, hg.tape, hg.output, ?_, fun k hk _ => ?_⟩, fun k hk => (ho.lt k hk).1⟩
      · rw [HN.out]
        exact own_base ho (Nat.zero_le _)
      · have := hg.size; simp at this; omega
      · rw [hg.block k (by simp; omega) (fun ee => by simp [Value.ownBlock] at ee; omega), Below.heap_alloc _ _ _ hk])
    clear ho hg
    go_wp2
    go_ret
    exact ⟨_, rfl, HX.out⟩
/-! ### small calls -/
theorem cmp_ptr (b : Nat) (w : World) : (binOp .eql 24 (.pointer (some ⟨b, 0, none⟩)) (.pointer none)).run Try.prog w = .ok (.bool false) w := by kernel_rfl
theorem cmn_ptr (b : Nat) (w : World) : (binOp .neq 24 (.pointer (some ⟨b, 0, none⟩)) (.pointer none)).run Try.prog w = .ok (.bool true) w := by kernel_rfl
set_option maxHeartbeats 800000 in
theorem off_ok {w : World} {S : Sh} {d : Dk} (h : Ds w S d) : Calls Try.prog 23 #[ptrV S.g] w fun r w' => w' = w ∧ r = .returned (.bool d.off) := by
  obtain ⟨c0, c1, c2, c3, c4, c5⟩ := ds_cells h
  have hq := cmn_ptr S.g w
  clear h c0 c1 c2 c3 c4
  unfold ptrV
  go_enter Try.func23, Try.ntmps23
  go_wp2
  go_ret
  exact ⟨rfl, rfl⟩
set_option maxHeartbeats 800000 in
theorem pending_ok {w : World} {S : Sh} {d : Dk} {c e : Nat} (h : At w S d c e) : Calls Try.prog 25 #[ptrV S.g] w fun r w' => w' = w ∧ r = .returned (.int .i64 d.wait.length) := by
  obtain ⟨c0, c1, c2, c3, c4, c5⟩ := ds_cells h.ds
  have hq := cmp_ptr S.g w
  obtain ⟨pa, pc, he⟩ := own_sl h.pn.pend
  rw [he] at c3
  clear h c0 c1 c2 c4 c5 he
  generalize d.wait.length = n at *
  unfold ptrV
  go_enter Try.func25, Try.ntmps25
  go_wp2
  go_ret
  exact ⟨rfl, rfl⟩
set_option maxHeartbeats 800000 in
theorem cut_ok {w : World} {S : Sh} {d : Dk} {c e : Nat} (h : At w S d c e) (n : Int) (hn : -9223372036854775808 ≤ n ∧ n ≤ 9223372036854775807) :
    Calls Try.prog 20 #[ptrV S.g, .int .i64 n] w fun r w' => r = .returned (.tuple #[]) ∧ ∃ S', At w' S' (cutD d n) c e ∧ Fr w w' S S' := by
  have hready := ready_ok h.ds
  cases hoff : d.off with
  | true =>
    rw [hoff] at hready
    simp only [if_true] at hready
    have HR := Lib.hid hready
    have HE : Hid (∃ S', At w S' (cutD d n) c e ∧ Fr w w S S') := Lib.hid ⟨S, by unfold cutD; rw [if_pos hoff]; exact h, Fr.refl _ _⟩
    clear hready h hoff hn
    unfold ptrV at *
    go_enter Try.func20, Try.ntmps20
    go_wp2_with fail
    refine HR.out.mono ?_
    rintro r w' ⟨rfl, rfl⟩
    go_wp2
    go_end0
    exact ⟨rfl, HE.out⟩
  | false =>
    rw [hoff] at hready
    simp only [Bool.false_eq_true, if_false] at hready
    have HR := Lib.hid hready
    have hb := h.ds.disk
    have hb1 := hb.put 4 (.int .i64 n)
    have HE : Hid (∃ S', At (w.setCell ⟨S.g, 4, none⟩ (.int .i64 n)) S' (cutD d n) c e ∧ Fr w (w.setCell ⟨S.g, 4, none⟩ (.int .i64 n)) S S') := Lib.hid (by
      obtain ⟨r1, r2⟩ := At.cells h n false (grown_set w S.g 4 (.int .i64 n)) (by simpa [dskC, hoff] using hb1) hn
      have e0 : cutD d n = d.setO false n := by
        unfold cutD Dk.setO
        rw [if_neg (by rw [hoff]; decide)]
        cases d
        simp only at hoff
        simp [hoff]
      rw [e0]
      exact ⟨_, r1, r2⟩)
    have c4 : w.cell? ⟨S.g, 4, none⟩ = some (.int .i64 S.left) := (ds_cells h.ds).2.2.2.2.1
    have f4 : w.frozen? ⟨S.g, 4, none⟩ = false := hb.frozen 4
    clear hready h hoff hn hb hb1
    unfold ptrV at *
    go_enter Try.func20, Try.ntmps20
    go_wp2_with fail
    refine HR.out.mono ?_
    rintro r w' ⟨rfl, rfl⟩
    go_wp2
    go_end0
    exact ⟨rfl, HE.out⟩
set_option maxHeartbeats 1600000 in
theorem read_ok {w : World} {S : Sh} {d : Dk} {c e : Nat} (h : At w S d c e) {x : ByteArray} (hx : x.size ≤ maxLen) (he : e ≤ 1099511627776) :
    Calls Try.prog 19 #[ptrV S.g, .string x] w fun r w' => ∃ v, r = .returned (.tuple #[v, .int .i64 (readD d x).2]) ∧ New1 w w' v (readD d x).1 := by
  have hready := ready_ok h.ds
  have hn0 : Hid (New1 w w (.slice none 0 0) []) := Lib.hid ⟨World.ownsRow_nil _ _ _ _, gr_refl w, fun k hk => by cases hk⟩
  cases hoff : d.off with
  | true =>
    rw [hoff] at hready
    simp only [if_true] at hready
    have HR := Lib.hid hready
    have e0 : readD d x = ([], 23) := by unfold readD; rw [if_pos hoff]
    rw [e0]
    clear hready h hoff hx e0
    unfold ptrV at *
    go_enter Try.func19, Try.ntmps19
    go_wp2_with fail
    refine HR.out.mono ?_
    rintro r w' ⟨rfl, rfl⟩
    go_wp2
    go_ret2
    exact ⟨_, rfl, hn0.out⟩
  | false =>
    rw [hoff] at hready
    simp only [Bool.false_eq_true, if_false] at hready
    have HR := Lib.hid hready
    have hf := find_ok h.hd hx
    cases hfi : findD d.l x with
    | none =>
      have e0 : readD d x = ([], 20) := by unfold readD; rw [if_neg (by rw [hoff]; decide), hfi]
      rw [e0]
      rw [hfi] at hf
      simp only [fileP] at hf
      have HF := Lib.hid hf
      have hq := eql_nil w
      clear hready h hoff hx e0 hf hfi
      unfold ptrV at *
      go_enter Try.func19, Try.ntmps19
      go_wp2_with fail
      refine HR.out.mono ?_
      rintro r w' ⟨rfl, rfl⟩
      go_wp2_with fail
      refine HF.out.mono ?_
      rintro r w' ⟨rfl, rfl⟩
      go_wp2
      go_ret2
      exact ⟨_, rfl, hn0.out⟩
    | some f =>
      have e0 : readD d x = (d.is.getD f [], 0) := by unfold readD; rw [if_neg (by rw [hoff]; decide), hfi]
      rw [e0]
      rw [hfi] at hf
      simp only [fileP] at hf
      have HF := Lib.hid hf
      have hlf : S.live f := by
        obtain ⟨y, hy1, _, hy3⟩ := find_mem hfi
        rw [← hy3]; exact h.fs.nam0 y hy1
      have hcl := clone_ok (Src.own (h.fs.row f false hlf)) (Nat.le_trans (h.fs.len f false hlf) he)
      have HC := Lib.hid hcl
      have hq := eql_ptr (S.fb f) w
      have hcell : w.cell? ⟨S.fb f, 0, none⟩ = some (S.row f false) := (h.fs.file f hlf).cell 0
      clear hready h hoff hx e0 hf hfi hlf hcl hn0
      change Hid (Calls _ _ _ _ fun r w' => ∃ v', r = .returned v' ∧ New1 w w' v' (d.is.getD f [])) at HC
      unfold ptrV at *
      go_enter Try.func19, Try.ntmps19
      go_wp2_with fail
      refine HR.out.mono ?_
      rintro r w' ⟨rfl, rfl⟩
      go_wp2_with fail
      refine HF.out.mono ?_
      rintro r w' ⟨rfl, rfl⟩
      go_wp2_with fail
      refine HC.out.mono ?_
      rintro r w1 ⟨v, rfl, hv⟩
      have HV := Lib.hid hv
      clear hv
      go_wp2
      go_ret2
      exact ⟨_, rfl, HV.out⟩
end Go.Proofs.Ythogdieplfpopaa
