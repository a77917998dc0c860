/-
  What is proved here: what a round of settle makes, in words.
  Conditions: none.
-/
import Derived.Test.YthogdieplfpopaaDskCln
import Derived.LaidEql
namespace Go.Proofs.Ythogdieplfpopaa
open Go.RowKit Go.WideMaps Go.Maps
set_option linter.unusedVariables false
set_option linter.unusedSimpArgs false

theorem At.pend2 {w0 w : World} {S0 S : Sh} {d : Dk} {c e : Nat} (h : Hd w S d c e) {n0 : Nat} {xs0 : List Value} (hpv : w.ownsRow 0 83 2 S.pv n0 xs0) (hf : Fr w0 w S0 S)
    {v' : Value} {pc : List Value} {wl : List Do} (ho : w.ownsRow 0 83 2 v' wl.length pc) (hv : ∀ k, v'.ownBlock = some k → w0.heap.size ≤ k)
    (ops : ∀ j, j < wl.length → OpAt w S e (wl.getD j do0) (pc.getD (2 * j) undef) (pc.getD (2 * j + 1) undef)) (hle : wl.length ≤ c) :
    At (w.setCell ⟨S.g, 3, none⟩ v') (S.setP v' pc) { d with wait := wl } c e ∧ Fr w0 (w.setCell ⟨S.g, 3, none⟩ v') S0 (S.setP v' pc) := by
  have hg2 := grown_set w S.g 3 v'
  have keep : ∀ k, k < w.heap.size → k ≠ S.g → (w.setCell ⟨S.g, 3, none⟩ v').heap[k]? = w.heap[k]? := fun k hk h1 => hg2.block k hk (fun ee => h1 (by injection ee))
  have hkt : ∀ k C t, Blk w k C t → t ≠ 63 → t ≠ 83 → (w.setCell ⟨S.g, 3, none⟩ v').heap[k]? = w.heap[k]? := fun k C t hB h1 h2 => keep k hB.lt (blk_ne hB h.ds.disk h1)
  have f := h.fs.turn hg2 (fun k hk => by injection hk with hk; subst hk; exact ⟨_, _, h.ds.disk, by decide, by decide⟩)
  refine ⟨⟨?_, ?_, ?_, ?_⟩, ?_⟩
  · refine ⟨?_, h.ds.cut, h.ds.lb, h.ds.rb, .inl h.ds.og⟩
    have := h.ds.disk.put 3 v'
    simpa [dskC, Sh.setP] using this
  · exact ⟨f.n0, f.n1, f.lt, f.file, f.row, f.bd, f.len, f.inj, f.sep, f.mp0, f.mp1, f.mne, f.nam0, f.nam1, f.nd0, f.nd1, f.sz0, f.sz1, fun i hi => .inl (f.of i hi), fun i s k hi hk => .inl (f.or i s k hi hk), fun b hb => .inl (f.om0 b hb), fun b hb => .inl (f.om1 b hb)⟩
  · refine ⟨?_, fun j hj => (ops j hj).keepx hkt rfl (fun _ => rfl) rfl (fun _ _ => rfl) (fun _ h => .inl h), hle, fun k hk => .inr hk⟩
    refine row_keep ho hg2 fun k hk hkk => ?_
    injection hk with hk
    subst hk
    exact row_blk_ne ho h.ds.disk (by decide) hkk
  · intro k hk
    have hsz : (w.setCell ⟨S.g, 3, none⟩ v').heap.size = w.heap.size := by simp [World.setCell]
    rw [hsz]
    rcases hk with hk | hk
    · exact h.sm k hk
    · obtain ⟨C, hC⟩ := row_blk ho hk
      exact hC.lt
  · refine ⟨hg2.os.trans hf.os, hg2.tape.trans hf.tape, hg2.output.trans hf.output, Nat.le_trans hf.size hg2.size, fun k hk hn => ?_, hf.g, fun k hk => ?_⟩
    · rw [keep k (Nat.lt_of_lt_of_le hk hf.size) (fun ee => ?_), hf.frm k hk hn]
      rcases hf.own' S.g h.ds.og with h1 | h1
      · exact hn (ee ▸ h1)
      · omega
    · rcases hk with hk | hk
      · exact hf.own' k hk
      · exact .inr (hv k hk)
theorem Mv.grown {w w' w'' : World} {S S' : Sh} {row : Option Nat} (m : Mv w w' S S') (hg : w'.grownBy w'' row) (hr : ∀ k, row = some k → w.heap.size ≤ k) : Mv w w'' S S' :=
  ⟨hg.os.trans m.os, hg.tape.trans m.tape, hg.output.trans m.output, Nat.le_trans m.size hg.size,
    fun k hk hn => by rw [hg.block k (Nat.lt_of_lt_of_le hk m.size) (fun ee => by have := hr k ee.symm; omega)]; exact m.blk k hk hn,
    fun k hk hn => by rw [hg.block k (Nat.lt_of_lt_of_le hk m.size) (fun ee => by have := hr k ee.symm; omega)]; exact m.frm k hk hn,
    m.g, m.pv, m.left, m.pc, m.nf, m.fb, m.live, m.own, m.own', m.rows⟩
theorem Hd.same {w w' : World} {S : Sh} {d : Dk} {c e : Nat} (h : Hd w S d c e) (hs : ∀ k, S.own k → w'.heap[k]? = w.heap[k]?) (hz : w.heap.size ≤ w'.heap.size) : Hd w' S d c e :=
  ⟨h.ds.same hs, h.fs.same hs, fun k hk => Nat.lt_of_lt_of_le (h.sm k hk) hz⟩
theorem Hd.grown {w w' : World} {S : Sh} {d : Dk} {c e : Nat} {row : Option Nat} (h : Hd w S d c e) (hg : w.grownBy w' row) (hr : ∀ k, row = some k → ¬ S.own k) : Hd w' S d c e :=
  h.same (fun k hk => hg.block k (h.sm k hk) (fun ee => hr k ee.symm hk)) hg.size
theorem OpAt.grown {w w' : World} {S : Sh} {e : Nat} {o : Do} {c0 c1 : Value} {row : Option Nat} (h : OpAt w S e o c0 c1) (hsm : ∀ k, S.own k → k < w.heap.size) (hg : w.grownBy w' row) (hr : ∀ k, row = some k → ¬ S.own k) : OpAt w' S e o c0 c1 :=
  h.same (fun k hk => hg.block k (hsm k hk) (fun ee => hr k ee.symm hk)) rfl (fun _ _ => rfl) (fun _ h => h) (fun _ _ _ hl hr => ⟨hl, hr⟩) (fun _ h => h)
/-- A round's word: k changes have come up; rl of them stay. -/
structure StI (w : World) (S : Sh) (d : Dk) (c e : Nat) (ch : Nat → Do → Bool) (k : Nat) (wr : World) (Si : Sh) (Di : Dk) (rl : List Do) (rest : Value) (rc : List Value) : Prop where
  mv : Mv w wr S Si
  hd : Hd wr Si Di (c + k) e
  row : wr.ownsRow w.heap.size 83 2 rest rl.length rc
  ops : ∀ j, j < rl.length → OpAt wr Si e (rl.getD j do0) (rc.getD (2 * j) undef) (rc.getD (2 * j + 1) undef)
  no : ∀ b, rest.ownBlock = some b → ¬ Si.own b
  wt : Di.wait = d.wait
  eq : settleD ch k (d.wait.drop k) { Di with wait := rl } = settledD d ch
  le : rl.length ≤ k
theorem StI.start {w : World} {S : Sh} {d : Dk} {c e : Nat} {ch : Nat → Do → Bool} (h : Hd w S d c e) : StI w S d c e ch 0 w S d [] (.slice none 0 0) [] :=
  ⟨Mv.refl _ _, h, World.ownsRow_nil _ _ _ _, fun j hj => absurd hj (by simp), (fun b hb => by cases hb), rfl, rfl, Nat.le_refl _⟩
theorem drop_at {L : List Do} {k : Nat} (hk : k < L.length) : L.drop k = L.getD k do0 :: L.drop (k + 1) := by
  rw [List.drop_eq_getElem_cons hk, List.getD_eq_getElem?_getD, List.getElem?_eq_getElem hk]; rfl
/-- Elsewhere a block is made. -/
theorem StI.alloc {w wr : World} {S Si : Sh} {d Di : Dk} {c e k : Nat} {ch : Nat → Do → Bool} {rl : List Do} {rest : Value} {rc : List Value} (h : StI w S d c e ch k wr Si Di rl rest rc) (o : Obj) : StI w S d c e ch k (wr.alloc o) Si Di rl rest rc := by
  have hg := World.grownBy_alloc wr o none
  exact ⟨h.mv.grown hg (fun _ h => by cases h), h.hd.grown hg (fun _ h => by cases h), h.row.alloc o, fun j hj => (h.ops j hj).grown h.hd.sm hg (fun _ h => by cases h), h.no, h.wt, h.eq, h.le⟩
/-- The change is done to what is sure. -/
theorem StI.yes {w wr w2 : World} {S Si S2 : Sh} {d Di : Dk} {c e k : Nat} {ch : Nat → Do → Bool} {rl : List Do} {rest : Value} {rc : List Value} (h : StI w S d c e ch k wr Si Di rl rest rc) (hk : k < d.wait.length) (hc : ch k (d.wait.getD k do0) = true)
    (m : Mv wr w2 Si S2) (h2 : Hd w2 S2 (actD true Di (d.wait.getD k do0)) (c + k + 1) e) : StI w S d c e ch (k + 1) w2 S2 (actD true Di (d.wait.getD k do0)) rl rest rc where
  mv := h.mv.trans m
  hd := h2
  row := row_same h.row fun b hb => by
    obtain ⟨C, hC⟩ := row_blk h.row hb
    exact m.blk b hC.lt (not_exm hC (by decide) (by decide) (fun e => absurd e (by decide)))
  ops := fun j hj => (h.ops j hj).mv m
  no := fun b hb hx => by
    obtain ⟨C, hC⟩ := row_blk h.row hb
    have := hC.lt
    rcases m.own' b hx with h1 | h1
    · exact h.no b hb h1
    · omega
  wt := (act_wait true Di _).trans h.wt
  eq := by
    have h0 := h.eq
    rw [drop_at hk, settleD, if_pos hc] at h0
    rw [← h0]
    unfold actD
    by_cases e1 : (d.wait.getD k do0).k = 1
    · rw [if_pos e1, if_pos e1]; rfl
    · rw [if_neg e1, if_neg e1]; rfl
  le := by have := h.le; omega
/-- The change stays. -/
theorem StI.not {w wr w2 : World} {S Si : Sh} {d Di : Dk} {c e k : Nat} {ch : Nat → Do → Bool} {rl : List Do} {rest : Value} {rc : List Value} (h : StI w S d c e ch k wr Si Di rl rest rc) (hk : k < d.wait.length) (hc : ch k (d.wait.getD k do0) = false) {c0 c1 : Value} (ho : OpAt wr Si e (d.wait.getD k do0) c0 c1)
    {v' : Value} (hr : w2.ownsRow w.heap.size 83 2 v' (rl.length + 1) (rc ++ [c0, c1])) (hg : wr.grownBy w2 rest.ownBlock) (hv : v'.ownBlock = rest.ownBlock ∨ ∀ b, v'.ownBlock = some b → wr.heap.size ≤ b) :
    StI w S d c e ch (k + 1) w2 Si Di (rl ++ [d.wait.getD k do0]) v' (rc ++ [c0, c1]) where
  mv := h.mv.grown hg (fun b hb => (h.row.lt b hb).1)
  hd := (h.hd.grown hg h.no).up (by omega) (Nat.le_refl _)
  row := by rw [List.length_append]; exact hr
  ops := fun j hj => by
    have hlp : rc.length = 2 * rl.length := by rw [h.row.1]; omega
    obtain ⟨e1, e2⟩ := getD_snoc rc rl.length c0 c1 hlp j
    rw [e1, e2]
    rw [List.length_append] at hj
    by_cases hjn : j < rl.length
    · rw [if_pos hjn, if_pos hjn, List.getD_eq_getElem?_getD, List.getElem?_append_left hjn, ← List.getD_eq_getElem?_getD]
      exact (h.ops j hjn).grown h.hd.sm hg h.no
    · have hje : j = rl.length := by simp at hj; omega
      subst hje
      rw [if_neg hjn, if_neg hjn, if_pos rfl, if_pos rfl]
      have e3 : (rl ++ [d.wait.getD k do0]).getD rl.length do0 = d.wait.getD k do0 := by simp [List.getD_eq_getElem?_getD]
      rw [e3]
      exact ho.grown h.hd.sm hg h.no
  no := fun b hb hx => by
    rcases hv with h1 | h1
    · exact h.no b (h1 ▸ hb) hx
    · have := h1 b hb
      have := h.hd.sm b hx
      omega
  wt := h.wt
  eq := by
    have h0 := h.eq
    rw [drop_at hk, settleD, if_neg (by rw [hc]; decide)] at h0
    exact h0
  le := by have := h.le; rw [List.length_append]; simp; omega
/-- All have come up. -/
theorem StI.done {w wr : World} {S Si : Sh} {d Di : Dk} {c e k : Nat} {ch : Nat → Do → Bool} {rl : List Do} {rest : Value} {rc : List Value} (h : StI w S d c e ch k wr Si Di rl rest rc) (hk : k = d.wait.length) (hp : Pn w S d c e) :
    ∃ S', At (wr.setCell ⟨S.g, 3, none⟩ rest) S' (settledD d ch) (c + d.wait.length) e ∧ Fr w (wr.setCell ⟨S.g, 3, none⟩ rest) S S' := by
  subst hk
  have hp1 := hp.mv h.mv h.wt
  have ho0 : wr.ownsRow 0 83 2 rest rl.length rc := by
    refine ⟨h.row.1, ?_⟩
    rcases h.row.2 with h1 | ⟨g, cap, cur, e1, e2, r⟩
    · exact .inl h1
    · exact .inr ⟨g, cap, cur, e1, Nat.zero_le _, r⟩
  obtain ⟨h1, h2⟩ := At.pend2 (w0 := w) (S0 := S) h.hd hp1.pend h.mv.fr ho0 (fun b hb => (h.row.lt b hb).1) h.ops (by have := h.le; omega)
  rw [h.mv.g] at h1 h2
  have e0 := h.eq
  rw [List.drop_eq_nil_of_le (Nat.le_refl _), settleD] at e0
  rw [e0] at h1
  exact ⟨_, h1, h2⟩
theorem in_two (d : Nat) {w : World} {a b : Nat} {Ca Cb : Array Value} {ta tb : TypeId} (ha : Blk w a Ca ta) (hb : Blk w b Cb tb) : (Op.equalIn (d + 1) 73 (.pointer (some ⟨a, 0, none⟩)) (.pointer (some ⟨b, 0, none⟩))).run Try.prog w = .ok (decide (a = b)) w := by
  by_cases h : a = b
  · subst h
    simp [Op.equalIn, run_underlying Try.underlying73, run_sameAddr_same]
  · have h1 : (⟨a, 0, none⟩ : Addr) ≠ ⟨b, 0, none⟩ := fun e => h (by injection e)
    simp [Op.equalIn, run_underlying Try.underlying73, h, run_sameAddr_other w h1 ha hb]
theorem op_two {w : World} {a b : Nat} {Ca Cb : Array Value} {ta tb : TypeId} (ha : Blk w a Ca ta) (hb : Blk w b Cb tb) : (Op.equal 73 (.pointer (some ⟨a, 0, none⟩)) (.pointer (some ⟨b, 0, none⟩))).run Try.prog w = .ok (decide (a = b)) w := in_two 9999 ha hb
theorem eql_two {w : World} {a b : Nat} {Ca Cb : Array Value} {ta tb : TypeId} (ha : Blk w a Ca ta) (hb : Blk w b Cb tb) : (binOp .eql 73 (.pointer (some ⟨a, 0, none⟩)) (.pointer (some ⟨b, 0, none⟩))).run Try.prog w = .ok (.bool (decide (a = b))) w := by
  simp only [binOp]
  simp [op_two ha hb]
theorem eql_np (b : Nat) (w : World) : (binOp .eql 73 (.pointer none) (.pointer (some ⟨b, 0, none⟩))).run Try.prog w = .ok (.bool false) w := by kernel_rfl
end Go.Proofs.Ythogdieplfpopaa
