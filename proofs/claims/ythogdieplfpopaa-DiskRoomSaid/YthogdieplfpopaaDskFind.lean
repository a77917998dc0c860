/-
  What is proved here: find, ready, put of package disk.
  Conditions: none.
-/
import Derived.Test.YthogdieplfpopaaDskB
import Derived.Maps.OwnOps
namespace Go.Proofs.Ythogdieplfpopaa
open Go.RowKit Go.WideMaps Go.Maps
set_option linter.unusedVariables false
set_option linter.unusedSimpArgs false

theorem without_names {L : List Dn} {x : ByteArray} (hd : (L.map (·.n)).Nodup) : ((withoutD L x).map (·.n)).Nodup := by
  unfold withoutD
  exact List.Pairwise.sublist (List.Sublist.map _ List.filter_sublist) hd
theorem without_mem {L : List Dn} {x : ByteArray} {y : Dn} (h : y ∈ withoutD L x) : y ∈ L ∧ y.n ≠ x := by
  unfold withoutD at h
  obtain ⟨h1, h2⟩ := List.mem_filter.1 h
  exact ⟨h1, by simpa using h2⟩
theorem with_names {L : List Dn} {x : ByteArray} {f : Nat} (hd : (L.map (·.n)).Nodup) : ((withD L x f).map (·.n)).Nodup := by
  unfold withD
  rw [List.map_append, List.nodup_append]
  refine ⟨without_names hd, by simp, ?_⟩
  intro a ha b hb
  obtain ⟨y, hy, rfl⟩ := List.mem_map.1 ha
  simp at hb
  subst hb
  exact (without_mem hy).2
theorem with_mem {L : List Dn} {x : ByteArray} {f : Nat} {y : Dn} (h : y ∈ withD L x f) : y ∈ L ∨ (y.n = x ∧ y.f = f) := by
  unfold withD at h
  rcases List.mem_append.1 h with h | h
  · exact .inl (without_mem h).1
  · simp at h
    subst h
    exact .inr ⟨rfl, rfl⟩
theorem find_mem : ∀ {L : List Dn} {x : ByteArray} {f : Nat}, findD L x = some f → ∃ y ∈ L, y.n = x ∧ y.f = f
  | [], x, f, h => by cases h
  | d :: r, x, f, h => by
    unfold findD at h
    by_cases e : d.n = x
    · rw [if_pos e] at h
      injection h with h
      exact ⟨d, by simp, e, h⟩
    · rw [if_neg e] at h
      obtain ⟨y, hy, h1⟩ := find_mem h
      exact ⟨y, by simp [hy], h1⟩
theorem ds_cells {w : World} {S : Sh} {d : Dk} (h : Ds w S d) : w.cell? ⟨S.g, 0, none⟩ = some (.int .i64 d.room) ∧ w.cell? ⟨S.g, 1, none⟩ = some (.map S.m0) ∧ w.cell? ⟨S.g, 2, none⟩ = some (.map S.m1) ∧ w.cell? ⟨S.g, 3, none⟩ = some S.pv ∧ w.cell? ⟨S.g, 4, none⟩ = some (.int .i64 S.left) ∧ w.cell? ⟨S.g, 5, none⟩ = some (.bool d.off) :=
  ⟨h.disk.cell 0, h.disk.cell 1, h.disk.cell 2, h.disk.cell 3, h.disk.cell 4, h.disk.cell 5⟩
theorem ds_frozen {w : World} {S : Sh} {d : Dk} (h : Ds w S d) (i : Nat) : w.frozen? ⟨S.g, i, none⟩ = false := h.disk.frozen i
set_option maxHeartbeats 800000 in
theorem find_ok {w : World} {S : Sh} {d : Dk} {c e : Nat} (h : Hd w S d c e) {x : ByteArray} (hx : x.size ≤ maxLen) :
    Calls Try.prog 39 #[ptrV S.g, .string x] w fun r w' => w' = w ∧ r = .returned (fileP S.fb (findD d.l x)) := by
  obtain ⟨c0, c1, c2, c3, c4, c5⟩ := ds_cells h.ds
  have HL := Lib.hid (h.fs.mp0.look hx)
  generalize hF : fileP S.fb (findD d.l x) = F at HL ⊢
  clear hF h hx
  unfold ptrV
  go_enter Try.func39, Try.ntmps39
  go_wp2_with (at_lookup; refine wpList_look _ rfl _ _ 59 rfl _ _ _ rfl rfl HL.out ?_)
  go_ret
  exact ⟨rfl, rfl⟩
set_option maxHeartbeats 800000 in
theorem ready_ok {w : World} {S : Sh} {d : Dk} (h : Ds w S d) :
    Calls Try.prog 55 #[ptrV S.g] w fun r w' => w' = w ∧ r = .returned (.int .i64 (if d.off = true then 23 else 0)) := by
  obtain ⟨c0, c1, c2, c3, c4, c5⟩ := ds_cells h
  clear h c0 c1 c2 c3 c4
  unfold ptrV
  generalize d.off = o at *
  cases o
  · go_enter Try.func55, Try.ntmps55
    go_wp2
    go_ret
    exact ⟨rfl, rfl⟩
  · go_enter Try.func55, Try.ntmps55
    go_wp2
    go_ret
    exact ⟨rfl, rfl⟩
theorem eql_some (b : Nat) (w : World) : (binOp .eql 59 (.map (some b)) (.map none)).run Try.prog w = .ok (.bool false) w := by kernel_rfl
theorem eql_none (w : World) : (binOp .eql 59 (.map none) (.map none)).run Try.prog w = .ok (.bool true) w := by kernel_rfl
theorem mp_alive {w : World} {S : Sh} {d : Dk} {c e : Nat} (h : Hd w S d c e) (s : Bool) : w.cell? ⟨S.g, if s = true then 2 else 1, none⟩ = some (.map (S.mp s)) := by
  cases s
  · exact (ds_cells h.ds).2.1
  · exact (ds_cells h.ds).2.2.1
/-- A name laid into a directory that is there. -/
theorem Hd.put {w : World} {S : Sh} {d : Dk} {c e : Nat} (h : Hd w S d c e) (s : Bool) {b : Nat} (hb : S.mp s = some b) {x : ByteArray} (hx : x.size ≤ maxLen) (hc : c < maxLen) {f : Nat} (hf : S.live f) :
    ∃ w', (Instr.mapUpdate 59 (.map (some b)) (.string x) (ptrV (S.fb f))).run Try.prog w = .ok () w' ∧ Hd w' S (d.setN s (withD (d.nm s) x f)) (c + 1) e ∧ Mv w w' S S := by
  have hm := h.fs.mp s
  rw [hb] at hm
  obtain ⟨w', hrun, hm', hg⟩ := hm.store hx hc f
  refine ⟨w', hrun, h.names s hb hg hm' (by omega) (fun y hy => ?_) (with_names (h.fs.nd s)) (fun y hy => ?_)⟩
  · rcases with_mem hy with h1 | ⟨_, h1⟩
    · exact h.fs.nam s y h1
    · rw [h1]; exact hf
  · rcases with_mem hy with h1 | ⟨h1, _⟩
    · exact h.fs.sz s y h1
    · rw [h1]; exact hx
set_option maxHeartbeats 1600000 in
set_option maxRecDepth 100000 in
theorem put_ok {w : World} {S : Sh} {d : Dk} {c e : Nat} (h : Hd w S d c e) (s : Bool) {x : ByteArray} (hx : x.size ≤ maxLen) (hc : c < maxLen) {f : Nat} (hf : S.live f) :
    Calls Try.prog 80 #[ptrV S.g, .int .i64 (if s = true then 1 else 0), .string x, ptrV (S.fb f)] w fun r w' => r = .returned (.tuple #[]) ∧ ∃ S', Mv w w' S S' ∧ Hd w' S' (d.setN s (withD (d.nm s) x f)) (c + 1) e := by
  obtain ⟨c0, c1, c2, c3, c4, c5⟩ := ds_cells h.ds
  have f0 := ds_frozen h.ds
  cases hm : S.mp s with
  | some b =>
    obtain ⟨w', hrun, hh, hmv⟩ := h.put s hm hx hc hf
    have HR := Lib.hid hrun
    have HH : Hid (∃ S', Mv w w' S S' ∧ Hd w' S' (d.setN s (withD (d.nm s) x f)) (c + 1) e) := Lib.hid ⟨S, hmv, hh⟩
    have hcm := mp_alive h s
    rw [hm] at hcm
    clear hrun hh hmv h hx hc hf c0 c1 c2 c3 c4 c5 f0 hm
    generalize hP : ptrV (S.fb f) = P at HR
    clear hP
    unfold ptrV
    have hq := eql_some b w
    cases s
    all_goals simp only [Bool.false_eq_true, if_false, if_true] at hcm ⊢
    all_goals go_enter Try.func80, Try.ntmps80
    all_goals go_wp2_with (at_mapUpdate; refine wpList_update_run _ rfl _ _ _ 59 rfl _ _ _ _ rfl rfl rfl HR.out ?_)
    all_goals go_end0
    all_goals exact ⟨rfl, HH.out⟩
  | none =>
    have hcm := mp_alive h s
    rw [hm] at hcm
    obtain ⟨h1, m1⟩ := h.newMap s hm
    have hm1 : ({ S.setM s (some w.heap.size) with own := fun k => S.own k ∨ k = w.heap.size } : Sh).mp s = some w.heap.size := by cases s <;> rfl
    have hf1 : ({ S.setM s (some w.heap.size) with own := fun k => S.own k ∨ k = w.heap.size } : Sh).fb f = S.fb f := m1.fb f
    obtain ⟨w', hrun, hh, hmv⟩ := h1.put s hm1 hx hc (by rw [m1.live]; exact hf)
    rw [hf1] at hrun
    have HR := Lib.hid hrun
    have HH : Hid (∃ S', Mv w w' S S' ∧ Hd w' S' (d.setN s (withD (d.nm s) x f)) (c + 1) e) := Lib.hid ⟨_, m1.trans hmv, hh⟩
    have hcm2 := mp_alive h1 s
    rw [hm1] at hcm2
    have f2 := ds_frozen h1.ds
    have fz : w.frozen? ⟨S.g, if s = true then 2 else 1, none⟩ = false := f0 _
    have FZA := Lib.hid ((h.ds.disk.alloc (.map #[] 0)).frozen (if s = true then 2 else 1))
    have CZA : Hid ((w.alloc (.map #[] 0)).cell? ⟨S.g, if s = true then 2 else 1, none⟩ = some (.map none)) := Lib.hid (by have := mp_alive h s; rw [hm] at this; rw [(h.ds.disk.alloc (.map #[] 0)).cell, ← h.ds.disk.cell]; exact this)
    clear hrun hh hmv h1 m1 h hx hc hf c0 c1 c2 c3 c4 c5 f0 hm hm1 hf1
    generalize hP : ptrV (S.fb f) = P at HR
    clear hP
    unfold ptrV
    have hq := eql_none w
    have hk : (Instr.makeMap 59 none).run Try.prog w = .ok (.map (some w.heap.size)) (w.alloc (.map #[] 0)) := by kernel_rfl
    have hsa : (w.alloc (.map #[] 0)).frozen? ⟨S.g, if s = true then 2 else 1, none⟩ = false := FZA.out
    have hsc : (w.alloc (.map #[] 0)).cell? ⟨S.g, if s = true then 2 else 1, none⟩ = some (.map none) := CZA.out
    clear FZA CZA
    cases s
    all_goals simp only [Bool.false_eq_true, if_false, if_true] at hcm hcm2 fz HR f2 hsa hsc ⊢
    all_goals go_enter Try.func80, Try.ntmps80
    all_goals go_wp2_with (at_mapUpdate; refine wpList_update_run _ rfl _ _ _ 59 rfl _ _ _ _ rfl rfl rfl HR.out ?_)
    all_goals go_end0
    all_goals exact ⟨rfl, HH.out⟩
end Go.Proofs.Ythogdieplfpopaa
