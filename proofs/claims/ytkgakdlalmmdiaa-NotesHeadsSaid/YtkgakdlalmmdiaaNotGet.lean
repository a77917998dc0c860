/-
  What is proved here: Get of package notes: the notes of bytes, in new memory, or the error that the document names.
  Conditions: none but that the arguments are values of their types.
-/
import Derived.Test.YtkgakdlalmmdiaaNotNext
namespace Go.Proofs.Ytkgakdlalmmdiaa
open Go.RowKit
set_option linter.unusedVariables false
set_option linter.unusedSimpArgs false

theorem info_nn : (Try.prog.info? 42).map (fun i => (i.zero, i.size, i.bytes)) = some (some (.agg #[.string .empty, .int .u32 0, .slice none 0 0]), 3, 48) := by kernel_rfl
theorem own_not_blkK {w : World} {base n g k : Nat} {e t : TypeId} {v : Value} {xs : List Value} {C : Array Value} (h : w.ownsRow base e k v n xs) (hb : Blk w g C t) (ht : t ≠ e) : some g ≠ v.ownBlock := by
  rcases h.2 with ⟨rfl, _⟩ | ⟨g', c, cur, rfl, _, hg, _⟩
  · intro e; cases e
  · intro he
    injection he with he
    subst he
    unfold Blk at hb
    rw [hg] at hb
    injection hb with hb
    injection hb with _ hb
    exact ht hb.symm
theorem Tk.keep {w w' : World} {B gb : Nat} {zs : List Int} {r : Option Nat} (h : Tk w B gb zs) (hg : w.grownBy w' r) (hB : B ≤ w.heap.size) (hr : ∀ k, r = some k → B ≤ k) (hne : ∀ C, Blk w gb C 25 → some gb ≠ r) : Tk w' B gb zs := by
  obtain ⟨b, off, c, h1, h2, h3, h4, h5⟩ := h
  exact ⟨b, off, c, h1, h2.grown hg (hne _ h2), h3.below ((Below.refl _ _).grown hg hB hr), h4, h5⟩
/-- A note that was told: its bytes lie in a block of their own. -/
structure Dk (w : World) (s : Nt) : Prop where
  at' : ∃ g, s.de.a = some ⟨g, 0, none⟩ ∧ R8 w g s.de.zs
  c : s.de.c = s.de.n
  n : s.de.zs.length = s.de.n
  bd : ∀ m ∈ s.de.zs, 0 ≤ m ∧ m ≤ 255
  max : s.de.n ≤ 65536
  na : s.na.size ≤ maxLen
  ty : 0 ≤ s.ty ∧ s.ty ≤ 4294967295
theorem Dk.keep {w w' : World} {s : Nt} {r : Option Nat} (h : Dk w s) (hg : w.grownBy w' r) (hne : ∀ g C, Blk w g C 5 → some g ≠ r) : Dk w' s := by
  obtain ⟨⟨g, h1, h2⟩, h3, h4, h5, h6, h7, h8⟩ := h
  obtain ⟨C, hC, -⟩ := id h2
  exact ⟨⟨g, h1, h2.grown hg (hne _ _ hC)⟩, h3, h4, h5, h6, h7, h8⟩
theorem Dk.ok {w : World} {s : Nt} (h : Dk w s) : s.Ok w w.heap.size := by
  obtain ⟨⟨g, h1, h2⟩, h3, h4, h5, h6, h7, h8⟩ := h
  refine ⟨h7, h8, ?_, by rw [h3]; exact Nat.le_refl _, by rw [h3]; omega, fun e => by rw [h1] at e; cases e⟩
  rw [h1, ← h4]
  exact h2.bys h5

theorem own_not_opt {w : World} {base n k B gb : Nat} {v : Value} {xs : List Value} {zs : List Int} (h : w.ownsRow base 42 k v n xs) (ht : Tk w B gb zs) : v.ownBlock = none ∨ v.ownBlock ≠ some gb := by
  obtain ⟨_, _, _, _, hbx, _⟩ := ht
  exact .inr (Ne.symm (own_not_blkK h hbx (by decide)))
/-- A note that is told lies within what is left. -/
theorem next_len {zs : List Int} {d : Nd} {k : Nat} (h : nextN zs = (0, d, k)) (hb : ∀ m ∈ zs, 0 ≤ m ∧ m ≤ 255) : 0 < k ∧ k ≤ zs.length ∧ d.de.length ≤ zs.length ∧ ∀ m ∈ d.de, 0 ≤ m ∧ m ≤ 255 := by
  unfold nextN at h
  split at h
  · cases h
  split at h
  · cases h
  split at h
  · cases h
  split at h
  · cases h
  split at h
  · cases h
  split at h
  · cases h
  injection h with _ h
  injection h with h1 h2
  subst h1
  have hu := upN_le (numAt zs 4)
  simp only
  rw [piece_len (by omega)]
  exact ⟨by omega, by omega, by omega, piece_mem hb⟩
set_option maxRecDepth 100000 in
set_option maxHeartbeats 3200000 in
theorem nget_any (B : Nat) (a : Option Addr) (len cap : Nat) (zs : List Int) (w : World) (hb : Bys w B a len zs) (hB : B ≤ w.heap.size) (hcap : len ≤ cap) (hcm : (cap : Int) ≤ 9223372036854775807) :
    Calls Try.prog 14 #[.slice a len cap] w (GetPost (getN zs) w) := by
  have hzl := hb.1
  obtain ⟨i0, hi, hz0, hz1, hz2⟩ := info_parts info_nn
  have HI := Lib.hid hi
  have HZ0 := Lib.hid hz0
  have HZ1 := Lib.hid hz1
  have HZ2 := Lib.hid hz2
  clear hi hz0 hz1 hz2
  have hli : (len : Int) ≤ 9223372036854775807 := by omega
  by_cases hbig : 65536 < len
  · have hg : getN zs = (13, []) := by unfold getN; rw [if_pos (by omega)]
    rw [hg]
    go_enter Try.func14, Try.ntmps14
    go_wp2
    go_ret2
    exact ⟨⟨_, _, [], rfl, by decide, Nat.le_refl _, Nt.Sl.empty _ _ _, rfl⟩, Below.refl _ _⟩
  have hlj : (len : Int) ≤ 65536 := by omega
  by_cases h0 : len = 0
  · subst h0
    have hz : zs = [] := List.eq_nil_of_length_eq_zero hzl
    subst hz
    have HBX : Hid (∀ o, Below w.heap.size w (w.alloc o)) := Lib.hid (fun o => (Below.refl _ _).alloc (Nat.le_refl _) o)
    have HKX := Lib.hid (fun C => Blk.new w C 25)
    rw [show getN [] = (0, []) from rfl]
    clear hb
    go_enter Try.func14, Try.ntmps14
    go_wp2
    go_loopw [6] (fun v wr => v = .slice none 0 0 ∧ wr = w.alloc (.cells #[.slice a 0 cap] 25)) (fun _ _ => 0)
    case atStart => exact ⟨rfl, rfl⟩
    case round =>
      obtain ⟨rfl, rfl⟩ := hrel
      go_wp2
      go_ret2
      exact ⟨⟨_, _, [], rfl, by decide, Nat.le_refl _, Nt.Sl.empty _ _ _, rfl⟩, HBX.out _⟩
  obtain ⟨b, off, rfl, hbB, -⟩ := hb.2.2 (by omega)
  obtain ⟨Z, hZ⟩ : ∃ Z, getN zs = Z := ⟨_, rfl⟩
  have HZ : Hid (loopN zs (zs.length + 1) 0 [] = Z) := Lib.hid (by rw [← hZ]; unfold getN; rw [if_neg (by omega)])
  rw [hZ]
  have HZL := Lib.hid hzl
  have HBD := Lib.hid hb.2.1
  have HTK0 : Hid (Tk (w.alloc (.cells #[.slice (some ⟨b, off, none⟩) len cap] 25)) B w.heap.size (zs.drop 0)) := Lib.hid (by
    rw [List.drop_zero]
    exact ⟨b, off, cap, hbB, by rw [hzl]; exact Blk.new w _ _, by rw [hzl]; exact hb.below ((Below.refl _ _).alloc hB _), by rw [hzl]; exact hcap, hcm⟩)
  have HBX : Hid (Below w.heap.size w (w.alloc (.cells #[.slice (some ⟨b, off, none⟩) len cap] 25))) := Lib.hid ((Below.refl _ _).alloc (Nat.le_refl _) _)
  have HO0 : Hid ((w.alloc (.cells #[.slice (some ⟨b, off, none⟩) len cap] 25)).ownsRow w.heap.size 42 3 (.slice none 0 0) 0 (Nt.flat [])) := Lib.hid (World.ownsRow_nil _ _ _ _)
  clear hb hZ hzl
  go_enter Try.func14, Try.ntmps14
  go_wp2
  go_loopw [6] (fun v wr => ∃ (p f : Nat) (M : List Nt), p ≤ len ∧ len + 1 ≤ p + f ∧ M.length ≤ p ∧ loopN zs f p (M.map Nt.nd) = Z ∧ wr.ownsRow w.heap.size 42 3 v M.length (Nt.flat M) ∧ (∀ s ∈ M, Dk wr s) ∧ Tk wr B w.heap.size (zs.drop p) ∧ Below w.heap.size w wr) (fun v _ => len - lenV v)
  case atStart => exact ⟨0, len + 1, [], Nat.zero_le _, by omega, Nat.le_refl _, by rw [← HZL.out]; exact HZ.out, HO0.out, (by intro s h; cases h), HTK0.out, HBX.out⟩
  case round =>
    obtain ⟨p, f, M, hp, hf, hM, hloop, hown, hok, htk, hbel⟩ := hrel
    obtain ⟨va, vc, rfl, hvc, hvm⟩ := Nt.own_slice hown
    have HO := Lib.hid hown
    have HOK := Lib.hid hok
    have HBE := Lib.hid hbel
    have HTK := Lib.hid htk
    have hdl : (zs.drop p).length = len - p := by rw [List.length_drop, HZL.out]
    obtain ⟨f, rfl⟩ : ∃ f', f = f' + 1 := ⟨f - 1, by omega⟩
    obtain ⟨b', off', c', -, hbox, -, hc', -⟩ := htk
    rw [hdl] at hbox
    have q0 := hbox.cell 0
    have hgl := hbox.lt
    clear hown hok hbel HO0 HZ HTK0 HBX hbox hc'
    by_cases c1 : p < len
    · rw [loop_next zs f p _ (by rw [HZL.out]; exact c1)] at hloop
      have HN := nnext_any B w.heap.size (zs.drop p) wr HTK.out hB (by rw [hdl]; omega)
      have hpos : (0 : Int) < (len - p : Nat) := by omega
      obtain ⟨E, hE⟩ : ∃ E, nextN (zs.drop p) = E := ⟨_, rfl⟩
      rw [hE] at HN hloop
      have HE := Lib.hid hE
      unfold tkV at HN
      have HN := Lib.hid HN
      clear hE
      go_wp2_with fail
      refine HN.out.mono ?_
      clear HN
      rintro r w1 ⟨⟨he, rfl⟩ | ⟨he, nm, g, hna, hnl, hty, rfl, h8, htk2⟩, hgr⟩
      · rw [if_neg he] at hloop
        subst hloop
        have heb : (E.1 != 0) = true := by simpa using he
        have HB2 : Hid (∀ o, Below w.heap.size w (w1.alloc o)) := Lib.hid (fun o => by
          have h1 := HBE.out.grown hgr HBE.out.size (fun k e => by injection e with e; omega)
          exact h1.alloc h1.size o)
        clear hgr he
        go_wp2
        go_ret2
        exact ⟨⟨_, _, [], rfl, by decide, Nat.le_refl _, Nt.Sl.empty _ _ _, rfl⟩, HB2.out _⟩
      · rw [if_pos he] at hloop
        obtain ⟨E1, ⟨En, Et, Ed⟩, E2⟩ := E
        simp only at he hna hty h8 htk2 hloop ⊢
        subst he
        have hlt2 : Hid (0 < E2 ∧ p + E2 ≤ len ∧ Ed.length ≤ 65536 ∧ ∀ m ∈ Ed, 0 ≤ m ∧ m ≤ 255) := Lib.hid (by
          obtain ⟨h1, h2, h3, h4⟩ := next_len HE.out (fun m hm => HBD.out m (List.mem_of_mem_drop hm))
          rw [hdl] at h2 h3
          simp only at h3 h4
          exact ⟨h1, by omega, by omega, h4⟩)
        have HB1 : Hid (Below w.heap.size w w1) := Lib.hid (HBE.out.grown hgr HBE.out.size (fun k e => by injection e with e; omega))
        have HO1 := Lib.hid (HO.out.kept hgr (own_not_opt HO.out HTK.out))
        have HOK1 : Hid (∀ s ∈ M, Dk w1 s) := Lib.hid (fun s hs => (HOK.out s hs).keep hgr (fun g' C hC e => by
          injection e with e
          obtain ⟨_, _, _, _, hbx, _⟩ := HTK.out
          exact hC.ne hbx (by decide) e))
        have HTK1 := Lib.hid htk2
        have H8 := Lib.hid h8
        obtain ⟨d, hd⟩ : ∃ d, Ed.length = d := ⟨_, rfl⟩
        have HDL := Lib.hid hd
        rw [hd] at hlt2 ⊢
        have hd1 := hlt2.out.2.2.1
        obtain ⟨ty0, ty1⟩ := hty
        have hMl : M.length ≤ 65536 := by omega
        have hww := HB1.out.size
        obtain ⟨X, hX⟩ : ∃ X, X = w1.alloc (.cells #[.string nm, .int .u32 Et, .slice (some ⟨g, 0, none⟩) d d] 42) := ⟨_, rfl⟩
        clear hgr h8 htk2 hd
        go_wp2_with (at_builtin; refine wpList_append_own _ rfl _ _ 22 rfl w.heap.size 42 i0 _ 3 48 Try.underlying22 HI.out HZ0.out HZ1.out HZ2.out rfl (by decide) _ M.length _ rfl ((HO1.out.alloc _).alloc _) ⟨w1.heap.size + 1, 0, none⟩ 1 1 [.string nm, .int .u32 Et, .slice (some ⟨g, 0, none⟩) d d] rfl rfl ?e1 ?e2 ?e3 ?e4 ?e5 ?_)
        case e1 => exact cells8_new _ [.string nm, .int .u32 Et, .slice (some ⟨g, 0, none⟩) d d] _ _ (by simp)
        case e2 => intro u hu; simp only [List.mem_cons, List.not_mem_nil, or_false] at hu; rcases hu with rfl | rfl | rfl <;> rfl
        case e3 => unfold maxLen; omega
        case e4 => omega
        case e5 => simp; omega
        intro v4 w4 hv4 hg4 hnil4
        have hg9 := grow_trans (grow_trans (World.grownBy_alloc w1 _ _) (World.grownBy_alloc _ _ _)) hg4
        have HB4 : Hid (Below w.heap.size w w4) := Lib.hid (HB1.out.grown hg9 HB1.out.size (fun q e => (HO1.out.lt q e).1))
        have HO4 : Hid (w4.ownsRow w.heap.size 42 3 v4 (M ++ [(⟨nm, Et, ⟨some ⟨g, 0, none⟩, d, d, Ed⟩⟩ : Nt)]).length (Nt.flat (M ++ [(⟨nm, Et, ⟨some ⟨g, 0, none⟩, d, d, Ed⟩⟩ : Nt)]))) := Lib.hid (by rw [Nt.flat_snoc, List.length_append]; exact hv4)
        have HOK4 : Hid (∀ s ∈ M ++ [(⟨nm, Et, ⟨some ⟨g, 0, none⟩, d, d, Ed⟩⟩ : Nt)], Dk w4 s) := Lib.hid (by
          intro s hs
          have hk : Dk w1 s := by
            rcases List.mem_append.1 hs with h | h
            · exact HOK1.out s h
            · rw [List.mem_singleton.1 h]
              exact ⟨⟨g, rfl, H8.out⟩, rfl, HDL.out, hlt2.out.2.2.2, hd1, hnl, ⟨ty0, ty1⟩⟩
          exact hk.keep hg9 (fun g' C hC => own_not_blkK HO1.out hC (by decide)))
        have HTK4 := Lib.hid (HTK1.out.keep hg9 (by omega) (fun k e => Nat.le_trans hB (HO1.out.lt k e).1) (fun C hC => own_not_blkK HO1.out hC (by decide)))
        have HV : Hid (lenV v4 = M.length + 1) := Lib.hid (by obtain ⟨a2, c2, rfl, -, -⟩ := Nt.own_slice HO4.out; simp [lenV])
        clear hv4 hg4 hnil4 hg9
        go_wp2
        go_roundw
        case rel =>
          obtain ⟨h1, h2, -, -⟩ := hlt2.out
          refine ⟨p + E2, f, M ++ [⟨nm, Et, ⟨some ⟨g, 0, none⟩, d, d, Ed⟩⟩], h2, by omega, by rw [List.length_append, List.length_cons, List.length_nil]; omega, ?_, HO4.out, HOK4.out, ?_, HB4.out⟩
          · rw [← hloop, List.map_append]; simp only [Nt.nd, List.map_cons, List.map_nil, hna]
          · rw [← List.drop_drop]; exact HTK4.out
        case measure => rw [HV.out]; simp [lenV]; omega
    · obtain rfl : p = len := by omega
      unfold loopN at hloop
      rw [if_pos (by rw [HZL.out]; exact Nat.le_refl _)] at hloop
      subst hloop
      rw [Nat.sub_self] at q0
      go_wp2
      go_ret2
      exact ⟨⟨_, _, M, rfl, hvm, hvc, Nt.Sl.own (fun s h => (HOK.out s h).ok) HO.out, rfl⟩, HBE.out⟩
end Go.Proofs.Ytkgakdlalmmdiaa
