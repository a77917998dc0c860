/-
  What is proved here: Get of package dynamic: what bytes tell, or the error that the document names.
  Conditions: slices of at most 2^47 bytes.
-/
import Derived.Test.YtngjnbfjlchfgaaDynFill
import Derived.Test.YtngjnbfjlchfgaaDynPut
import Derived.Test.YtngjnbfjlchfgaaDynRGet
namespace Go.Proofs.Ytngjnbfjlchfgaa
open Go.RowKit
set_option linter.unusedVariables false
set_option linter.unusedSimpArgs false

theorem piece_piece {zs : List Int} {p n q k : Nat} (h : q + k ≤ n) : piece (piece zs p n) q k = piece zs (p + q) k := by
  unfold piece
  rw [List.drop_take, List.take_take, List.drop_drop, Nat.min_eq_left (by omega)]
/-- What the call holds in a round: the result's box, the variable x, the map, the values of Needed. -/
structure GC (wr : World) (r0 X g B : Nat) (nd : Value) (st : StD) (n : Nat) : Prop where
  res : Blk wr r0 #[.slice none 0 0, .int .u64 0, .int .u64 0, .int .u64 0, .int .u64 0, .int .u64 0, .int .u64 0, .int .u64 0] 27
  box : Blk wr X (nd :: st.v.map (Value.int .u64)).toArray 27
  map : FieldsM wr g X n st.seen
  own : wr.ownsRow B 23 1 nd st.nd.length (st.nd.map (Value.int .u64))
  ok : StOk st
  bd : ∀ n ∈ st.nd, 0 ≤ n ∧ n ≤ 18446744073709551615
  bv : ∀ n ∈ st.v, 0 ≤ n ∧ n ≤ 18446744073709551615
  lt : r0 < B ∧ X < B ∧ g < B
  ne : r0 ≠ X ∧ r0 ≠ g ∧ X ≠ g
  big : B ≤ wr.heap.size
theorem GC.call {wr w' : World} {r0 X g B n : Nat} {nd : Value} {st : StD} (h : GC wr r0 X g B nd st n) (hb : Below wr.heap.size wr w') : GC w' r0 X g B nd st n :=
  ⟨h.res.later hb, h.box.later hb, h.map.below hb, own_below h.own hb, h.ok, h.bd, h.bv, h.lt, h.ne, Nat.le_trans h.big hb.size⟩
theorem GC.need {wr w' : World} {r0 X g B n : Nat} {nd v' : Value} {st : StD} {x : Int} (h : GC wr r0 X g B nd st n) (hx : 0 ≤ x ∧ x ≤ 18446744073709551615) (hg : wr.grownBy w' nd.ownBlock) (ho : w'.ownsRow B 23 1 v' (st.nd.length + 1) (st.nd.map (Value.int .u64) ++ [.int .u64 x])) :
    GC (w'.setCell ⟨X, 0, none⟩ v') r0 X g B v' ⟨st.nd ++ [x], st.v, st.seen⟩ n := by
  obtain ⟨l0, l1, l2⟩ := h.lt
  obtain ⟨n0, n1, n2⟩ := h.ne
  have hr : ∀ g, g < B → some g ≠ nd.ownBlock := fun g hlt e => by have := (h.own.lt g e.symm).1; omega
  refine ⟨(h.res.grown hg (hr _ l0)).setOther n0 _, ?_, (h.map.grown hg (hr _ l2)).setCell (fun e => n2 e.symm) _, ?_, h.ok.need x, ?_, h.bv, h.lt, h.ne, by rw [World.size_setCell]; exact Nat.le_trans h.big hg.size⟩
  · have := (h.box.grown hg (hr _ l1)).set 0 v'
    simpa using this
  · have h2 : w'.ownsRow B 23 1 v' (st.nd ++ [x]).length ((st.nd ++ [x]).map (Value.int .u64)) := by simpa using ho
    exact ownsRow_setCell_below h2 l1 _
  · intro n hn
    rcases List.mem_append.1 hn with hn | hn
    · exact h.bd n hn
    · obtain rfl := List.mem_singleton.1 hn; exact hx
theorem GC.put {wr w' : World} {r0 X g B n : Nat} {nd : Value} {st : StD} {x : Int} {i : Nat} (h : GC wr r0 X g B nd st n) (hx : 0 ≤ x ∧ x ≤ 18446744073709551615)
    (hm : FieldsM w' g X (n + 1) (st.seen.set i true)) (hg : (wr.setCell ⟨X, i + 1, none⟩ (.int .u64 x)).grownBy w' (some g)) :
    GC w' r0 X g B nd ⟨st.nd, st.v.set i x, st.seen.set i true⟩ (n + 1) := by
  obtain ⟨l0, l1, l2⟩ := h.lt
  obtain ⟨n0, n1, n2⟩ := h.ne
  refine ⟨(h.res.setOther n0 _).grown hg (fun e => n1 (by injection e)), ?_, hm, ?_, h.ok.set i x, h.bd, ?_, h.lt, h.ne, ?_⟩
  · have := (h.box.set (i + 1) (.int .u64 x)).grown hg (fun e => n2 (by injection e))
    simpa [List.map_set] using this
  · refine (ownsRow_setCell_below h.own l1 _).kept hg ?_
    rcases hq : nd.ownBlock with _ | q
    · exact .inl rfl
    · refine .inr fun e => ?_
      have := (h.own.lt q hq).1
      injection e with e
      omega
  · intro n hn
    rcases List.mem_or_eq_of_mem_set hn with hn | rfl
    · exact h.bv n hn
    · exact hx
  · have h1 := hg.size
    rw [World.size_setCell] at h1
    exact Nat.le_trans h.big h1
theorem GC.cells {wr : World} {r0 X g B n : Nat} {nd : Value} {st : StD} (h : GC wr r0 X g B nd st n) {i : Nat} (hi : i < 7) : wr.cell? ⟨X, i + 1, none⟩ = some (.int .u64 (st.v.getD i 0)) ∧ wr.frozen? ⟨X, i + 1, none⟩ = false := by
  refine ⟨?_, h.box.frozen _⟩
  rw [h.box.cell]
  have := h.ok.v
  simp [List.getD_eq_getElem?_getD, List.getElem?_eq_getElem (show i < st.v.length by omega)]
def slen : Value → Nat
  | .slice _ m _ => m
  | _ => 0
/-- What Get hands back. -/
def TellsC (st : StD) (e : Int) (r : Ending) (w' : World) : Prop :=
  ∃ na nn nc, r = .returned (.tuple #[infoV na nn nc st.v, .int .i64 e]) ∧ Nus w' w'.heap.size na nn st.nd ∧ (nn : Int) ≤ 9223372036854775807 ∧ st.v.length = 7 ∧ ∀ n ∈ st.v, 0 ≤ n ∧ n ≤ 18446744073709551615
theorem tellsC_err (e : Int) (w' : World) : TellsC stD0 e (.returned (.tuple #[.agg #[.slice none 0 0, .int .u64 0, .int .u64 0, .int .u64 0, .int .u64 0, .int .u64 0, .int .u64 0, .int .u64 0], .int .i64 e])) w' :=
  ⟨none, 0, 0, rfl, Nus.empty _ _ _, by decide, rfl, by decide⟩
theorem own_eight {w : World} {base B n : Nat} {v : Value} {xs : List Value} (h : w.ownsRow B 23 1 v n xs) {r0 : Nat} (hl : r0 < B) (v0 v1 v2 v3 v4 v5 v6 v7 : Value) :
    ((((((((w.setCell ⟨r0, 0, none⟩ v0).setCell ⟨r0, 1, none⟩ v1).setCell ⟨r0, 2, none⟩ v2).setCell ⟨r0, 3, none⟩ v3).setCell ⟨r0, 4, none⟩ v4).setCell ⟨r0, 5, none⟩ v5).setCell ⟨r0, 6, none⟩ v6).setCell ⟨r0, 7, none⟩ v7).ownsRow B 23 1 v n xs :=
  ownsRow_setCell_below (ownsRow_setCell_below (ownsRow_setCell_below (ownsRow_setCell_below (ownsRow_setCell_below (ownsRow_setCell_below (ownsRow_setCell_below (ownsRow_setCell_below h hl _) hl _) hl _) hl _) hl _) hl _) hl _) hl _
theorem below_eight {w w' : World} {r0 B : Nat} (h : Below B w w') (hl : B ≤ r0) (v0 v1 v2 v3 v4 v5 v6 v7 : Value) :
    Below B w ((((((((w'.setCell ⟨r0, 0, none⟩ v0).setCell ⟨r0, 1, none⟩ v1).setCell ⟨r0, 2, none⟩ v2).setCell ⟨r0, 3, none⟩ v3).setCell ⟨r0, 4, none⟩ v4).setCell ⟨r0, 5, none⟩ v5).setCell ⟨r0, 6, none⟩ v6).setCell ⟨r0, 7, none⟩ v7) :=
  (((((((h.setCell hl _).setCell hl _).setCell hl _).setCell hl _).setCell hl _).setCell hl _).setCell hl _).setCell hl _
/-- The rest behind an entry. -/
theorem rest16 (g0 o m cp : Nat) (hm : 16 ≤ m) : ∀ ad : Option Addr, ad = some ⟨g0, o, none⟩ → (if cp = 16 then ad else some ⟨g0, o + 16, none⟩) = if cp = 16 then some ⟨g0, o, none⟩ else some ⟨g0, o + 16, none⟩ := by
  intro ad h; rw [h]

set_option maxRecDepth 100000 in
set_option maxHeartbeats 3200000 in
theorem get5_any (B : Nat) (a : Option Addr) (len cap : Nat) (zs : List Int) (w : World) (hb : Bys w B a len zs) (hB : B ≤ w.heap.size) (hl : len ≤ 140737488355328) (hc : len ≤ cap) (hcm : (cap : Int) ≤ 9223372036854775807) :
    Calls Try.prog 13 #[.slice a len cap] w fun r w' => TellsC (getDy zs).2 (getDy zs).1 r w' ∧ Below w.heap.size w w' := by
  obtain ⟨i1, hj, hy0, hy1, hy2⟩ := info_parts info_u64
  have HJ := Lib.hid hj
  have HY0 := Lib.hid hy0
  have HY1 := Lib.hid hy1
  have HY2 := Lib.hid hy2
  have HZB := Lib.hid hb.2.1
  have HZL := Lib.hid hb.1
  obtain ⟨g0, off, HA⟩ : ∃ g0 off, Hid (0 < len → a = some ⟨g0, off, none⟩ ∧ g0 < B) := by
    by_cases h0 : 0 < len
    · obtain ⟨b, off, e, h1, _⟩ := hb.2.2 h0
      exact ⟨b, off, Lib.hid (fun _ => ⟨e, h1⟩)⟩
    · exact ⟨0, 0, Lib.hid (fun h => absurd h h0)⟩
  have HBY := Lib.hid hb
  have hli : (len : Int) ≤ 140737488355328 := by omega
  obtain ⟨R, hR⟩ : ∃ R, getDy zs = R := ⟨_, rfl⟩
  rw [hR]
  have HR := Lib.hid hR
  have HW0 : Hid (Below w.heap.size w ((w.alloc (.cells #[.slice none 0 0, .int .u64 0, .int .u64 0, .int .u64 0, .int .u64 0, .int .u64 0, .int .u64 0, .int .u64 0] 27)).alloc (.cells #[.slice none 0 0, .int .u64 0, .int .u64 0, .int .u64 0, .int .u64 0, .int .u64 0, .int .u64 0, .int .u64 0] 27))) := Lib.hid (((Below.refl _ _).alloc (Nat.le_refl _) _).alloc (by simp) _)
  clear hb hj hy0 hy1 hy2 hR
  go_enter Try.func13, Try.ntmps13
  go_wp2_with fail
  refine (fieldsOf_any _ _).mono ?_
  rintro r w1 ⟨g, rfl, hg, hf, hb1⟩
  have HGC0 : Hid (GC w1 w.heap.size (w.heap.size + 1) g w1.heap.size (.slice none 0 0) stD0 7) := Lib.hid (by
    have hs := hb1.size
    have hgl := hf.lt
    simp only [World.size_alloc] at hg hs hf
    refine ⟨((Blk.new w _ _).alloc _).later hb1, ?_, hf, World.ownsRow_nil _ _ _ _, stD0_ok, fun _ h => by simp [stD0] at h, by decide, ⟨by omega, by omega, by omega⟩, ⟨by omega, by omega, by omega⟩, Nat.le_refl _⟩
    have h2 := (Blk.new (w.alloc (.cells #[.slice none 0 0, .int .u64 0, .int .u64 0, .int .u64 0, .int .u64 0, .int .u64 0, .int .u64 0, .int .u64 0] 27)) #[.slice none 0 0, .int .u64 0, .int .u64 0, .int .u64 0, .int .u64 0, .int .u64 0, .int .u64 0, .int .u64 0] 27).later hb1
    have h3 : Blk w1 (w.heap.size + 1) #[.slice none 0 0, .int .u64 0, .int .u64 0, .int .u64 0, .int .u64 0, .int .u64 0, .int .u64 0, .int .u64 0] 27 := by simpa using h2
    exact h3)
  have HB1 := Lib.hid (HW0.out.trans (hb1.mono HW0.out.size))
  have hgw : w.heap.size ≤ g := by simp only [World.size_alloc] at hg; omega
  obtain ⟨X, hX⟩ : ∃ X, w.heap.size + 1 = X := ⟨_, rfl⟩
  obtain ⟨BB, hBB⟩ : ∃ BB, w1.heap.size = BB := ⟨_, rfl⟩
  rw [hX, hBB] at HGC0
  have hXw : w.heap.size ≤ X := by omega
  clear hg hf hb1
  simp only [World.size_alloc, hX]
  go_wp2
  go_loopw [0] (fun b wr => ∃ (k m cp : Nat) (ad : Option Addr) (nd : Value) (st : StD) (n : Nat), b = .slice ad m cp ∧ 16 * k + m = len ∧ 16 * k + cp = cap ∧ (16 ≤ m → ad = some ⟨g0, off + 16 * k, none⟩) ∧ n ≤ 7 + k ∧ st.nd.length ≤ k ∧ GC wr w.heap.size X g BB nd st n ∧ outD zs (zs.length + 1 - k) k st = R ∧ Below w.heap.size w wr) (fun b _ => slen b)
  case atStart => exact ⟨0, len, cap, a, _, stD0, 7, rfl, by omega, by omega, fun h => (HA.out (by omega)).1, by omega, Nat.le_refl _, HGC0.out, HR.out, HB1.out⟩
  case round =>
    obtain ⟨k, m, cp, ad, nd, st, n, rfl, hm, hcp, had, hnk, hnd, hgs, hout, hbel⟩ := hrel
    have HGS := Lib.hid hgs
    have HBE := Lib.hid hbel
    have hzl := HZL.out
    by_cases hsh : m < 16
    · have hr := out_short (zs := zs) (k := k) (s := st) (by omega) (by omega)
      rw [hout] at hr
      subst hr
      obtain ⟨q0, q1, q2, q3, q4, q5, q6, q7⟩ := c8 hgs.res
      obtain ⟨f0, f1, f2, f3, f4, f5, f6, f7⟩ := f8 hgs.res
      have hmi : (m : Int) < 16 := by omega
      clear hgs hout hbel HR hzl had
      go_wp2
      refine bodyPost_ret (v := .tuple #[.agg #[.slice none 0 0, .int .u64 0, .int .u64 0, .int .u64 0, .int .u64 0, .int .u64 0, .int .u64 0, .int .u64 0], .int .i64 10]) (by simp [results, Try.results13, go_sem, q0, q1, q2, q3, q4, q5, q6, q7]) rfl ⟨tellsC_err _ _, below_eight HBE.out (Nat.le_refl _) _ _ _ _ _ _ _ _⟩
    · obtain rfl := had (by omega)
      have hmi : ¬ (m : Int) < 16 := by omega
      have hmi2 : (16 : Int) ≤ m := by omega
      have hcpi : (m : Int) ≤ cp := by omega
      have hcpm : (cp : Int) ≤ 9223372036854775807 := by omega
      have hrd : 16 * k + 16 ≤ zs.length := by omega
      have HBYW : Hid (Bys wr B (some ⟨g0, off + 16 * k, none⟩) m (piece zs (16 * k) m)) := Lib.hid (by
        have h := HBY.out.below (hbel.mono hB)
        rw [(HA.out (by omega)).1] at h
        exact h.sub (by omega))
      have HG1 : Hid (Calls Try.prog 20 #[.slice (some ⟨g0, off + 16 * k, none⟩) m cp, .int .u64 0] wr fun e w' => e = .returned (.int .u64 (tagAt zs k)) ∧ wr = w') := Lib.hid (by
        have h := read_ok B _ m cp _ 0 wr HBYW.out (by omega) (by omega)
        rw [piece_piece (by omega)] at h
        exact h)
      have HG2 : Hid (Calls Try.prog 20 #[.slice (some ⟨g0, off + 16 * k, none⟩) m cp, .int .u64 8] wr fun e w' => e = .returned (.int .u64 (valAt zs k)) ∧ wr = w') := Lib.hid (by
        have h := read_ok B _ m cp _ 8 wr HBYW.out (by omega) (by omega)
        rw [piece_piece (by omega)] at h
        exact h)
      have htb := tagAt_bd (k := k) HZB.out hrd
      have hvb := valAt_bd (k := k) HZB.out hrd
      have HEND := Lib.hid (fun h => (out_end (s := st) hrd h).symm.trans hout)
      have HNEED := Lib.hid (fun h => (out_need (s := st) hrd h).symm.trans hout)
      have HFORM := Lib.hid (fun h0 h1 hi => (out_form (s := st) hrd h0 h1 hi).symm.trans hout)
      have HOVER := Lib.hid (fun i h0 h1 hi hs => (out_over (i := i) (s := st) hrd h0 h1 hi hs).symm.trans hout)
      have HSET := Lib.hid (fun i h0 h1 hi hs => (out_set (i := i) (s := st) hrd h0 h1 hi hs).symm.trans hout)
      generalize tagAt zs k = t at HG1 htb HEND HNEED HFORM HOVER HSET
      generalize valAt zs k = x at HG2 hvb HEND HNEED HFORM HOVER HSET
      have HXB := Lib.hid hvb
      clear hout hbel HR hzl had HBYW hrd
      by_cases t0 : t = 0
      · subst t0
        have hend := HEND.out rfl
        have HWH := Lib.hid (whole_any g X n st wr hgs.map)
        obtain ⟨x0, x1, x2, x3, x4, x5, x6, hv⟩ := list7 hgs.ok.v
        clear HEND HNEED HFORM HOVER HSET hgs
        by_cases hw : wholeD st = true
        · rw [if_pos hw] at hend
          subst hend
          rw [hw] at HWH
          obtain ⟨na, nc, rfl⟩ := own_slice HGS.out.own
          go_wp2_with (first | (go_at_call 20; with_reducible refine HG1.out.mono ?_; rintro e w' ⟨rfl, rfl⟩) | (go_at_call 20; with_reducible refine HG2.out.mono ?_; rintro e w' ⟨rfl, rfl⟩))
          refine HWH.out.mono ?_
          rintro r w3 ⟨rfl, hb3⟩
          have HGS3 := Lib.hid (HGS.out.call hb3)
          have HB3 := Lib.hid (HBE.out.trans (hb3.mono HBE.out.size))
          have hbx := HGS3.out.box
          rw [hv] at hbx
          obtain ⟨p0, p1, p2, p3, p4, p5, p6, p7⟩ := c8 hbx
          obtain ⟨q0, q1, q2, q3, q4, q5, q6, q7⟩ := c8 HGS3.out.res
          obtain ⟨f0, f1, f2, f3, f4, f5, f6, f7⟩ := f8 HGS3.out.res
          clear hb3 hbx
          go_wp2
          refine bodyPost_ret (v := .tuple #[.agg #[.slice na st.nd.length nc, .int .u64 x0, .int .u64 x1, .int .u64 x2, .int .u64 x3, .int .u64 x4, .int .u64 x5, .int .u64 x6], .int .i64 0]) (by simp [results, Try.results13, go_sem, q0, q1, q2, q3, q4, q5, q6, q7]) rfl ⟨⟨na, st.nd.length, nc, ?_, Nus.own HGS3.out.bd (own_eight (base := 0) HGS3.out.own HGS3.out.lt.1 _ _ _ _ _ _ _ _), by omega, HGS3.out.ok.v, HGS3.out.bv⟩, below_eight HB3.out (Nat.le_refl _) _ _ _ _ _ _ _ _⟩
          rw [hv]; rfl
        · have hw' : wholeD st = false := by simpa using hw
          rw [if_neg hw] at hend
          subst hend
          rw [hw'] at HWH
          go_wp2_with (first | (go_at_call 20; with_reducible refine HG1.out.mono ?_; rintro e w' ⟨rfl, rfl⟩) | (go_at_call 20; with_reducible refine HG2.out.mono ?_; rintro e w' ⟨rfl, rfl⟩))
          refine HWH.out.mono ?_
          rintro r w3 ⟨rfl, hb3⟩
          have HGS3 := Lib.hid (HGS.out.call hb3)
          have HB3 := Lib.hid (HBE.out.trans (hb3.mono HBE.out.size))
          obtain ⟨q0, q1, q2, q3, q4, q5, q6, q7⟩ := c8 HGS3.out.res
          obtain ⟨f0, f1, f2, f3, f4, f5, f6, f7⟩ := f8 HGS3.out.res
          clear hb3
          go_wp2
          refine bodyPost_ret (v := .tuple #[.agg #[.slice none 0 0, .int .u64 0, .int .u64 0, .int .u64 0, .int .u64 0, .int .u64 0, .int .u64 0, .int .u64 0], .int .i64 11]) (by simp [results, Try.results13, go_sem, q0, q1, q2, q3, q4, q5, q6, q7]) rfl ⟨tellsC_err _ _, below_eight HB3.out (Nat.le_refl _) _ _ _ _ _ _ _ _⟩
      · by_cases t1 : t = 1
        · subst t1
          have hn := HNEED.out rfl
          have HOWN := Lib.hid hgs.own
          have hbx0 := hgs.box.cell 0
          have hcf0 := hgs.box.frozen 0
          have hbx0' : wr.cell? ⟨X, 0, none⟩ = some nd := by rw [hbx0]; rfl
          clear HEND HNEED HFORM HOVER HSET hgs hbx0
          go_wp2_with (first | (go_at_call 20; with_reducible refine HG1.out.mono ?_; rintro e w' ⟨rfl, rfl⟩) | (go_at_call 20; with_reducible refine HG2.out.mono ?_; rintro e w' ⟨rfl, rfl⟩) | (at_builtin; refine wpList_append_own _ rfl _ _ 22 rfl BB 23 i1 (.int .u64 0) 1 8 Try.underlying22 HJ.out HY0.out HY1.out HY2.out rfl (by decide) _ st.nd.length _ rfl (HOWN.out.alloc _) ⟨wr.heap.size, 0, none⟩ 1 1 [.int .u64 x] rfl rfl ?e1 ?e2 ?e3 ?e4 ?e5 ?_))
          case e1 => exact cell_one_new _ _ _
          case e2 => intro u hu; obtain rfl := List.mem_singleton.1 hu; rfl
          case e3 => unfold maxLen; omega
          case e4 => omega
          case e5 => have := HGS.out.big; simp; omega
          intro v4 w4 hown4 hg4 _
          obtain ⟨ua4, uc4, rfl⟩ := own_slice hown4
          have hga := HGS.out.call ((Below.refl _ _).alloc (Nat.le_refl wr.heap.size) (.cells #[.int .u64 x] 23))
          have hbx := hga.box.grown hg4 (fun e => by have := (HOWN.out.lt X e.symm).1; have := HGS.out.lt.2.1; omega)
          have c0 := hbx.cell 0
          have c0' : w4.cell? ⟨X, 0, none⟩ = some nd := by rw [c0]; rfl
          have z0 := hbx.frozen 0
          have HGN := Lib.hid (hga.need HXB.out hg4 hown4)
          have HB4 : Hid (Below w.heap.size w w4) := Lib.hid ((HBE.out.alloc HBE.out.size _).grown hg4 (by have := HBE.out.size; simp; omega) (fun q e => by have := (HOWN.out.lt q e).1; have := HGS.out.lt.1; omega))
          have HN := Lib.hid hn
          clear hown4 hg4 hga hbx hn c0 hbx0' hcf0
          go_wp2
          go_roundw
          case rel => exact ⟨k + 1, m - 16, cp - 16, _, _, _, n, rfl, by omega, by omega, fun h => by rw [if_neg (by omega), show off + 16 * k + 16 = off + 16 * (k + 1) by omega], by omega, by simp; omega, HGN.out, HN.out, HB4.out.setCell hXw _⟩
          case measure => (simp [slen] <;> omega)
        · have t0' : (t == 0) = false := by simpa using t0
          have t1' : (t == 1) = false := by simpa using t1
          cases hix : idxD t with
          | none =>
            have hr := HFORM.out t0 t1 hix
            subst hr
            have HFI := Lib.hid (fill_form g X n st.seen t x wr htb hgs.map hix)
            obtain ⟨q0, q1, q2, q3, q4, q5, q6, q7⟩ := c8 hgs.res
            obtain ⟨f0, f1, f2, f3, f4, f5, f6, f7⟩ := f8 hgs.res
            clear HEND HNEED HFORM HOVER HSET hgs
            go_wp2_with (first | (go_at_call 20; with_reducible refine HG1.out.mono ?_; rintro e w' ⟨rfl, rfl⟩) | (go_at_call 20; with_reducible refine HG2.out.mono ?_; rintro e w' ⟨rfl, rfl⟩) | (go_at_call 22; with_reducible refine HFI.out.mono ?_; rintro e w' ⟨rfl, rfl⟩))
            refine bodyPost_ret (v := .tuple #[.agg #[.slice none 0 0, .int .u64 0, .int .u64 0, .int .u64 0, .int .u64 0, .int .u64 0, .int .u64 0, .int .u64 0], .int .i64 11]) (by simp [results, Try.results13, go_sem, q0, q1, q2, q3, q4, q5, q6, q7]) rfl ⟨tellsC_err _ _, below_eight HBE.out (Nat.le_refl _) _ _ _ _ _ _ _ _⟩
          | some i =>
            obtain ⟨hi7, -⟩ := idxD_lt hix
            cases hsn : st.seen.getD i false with
            | true =>
              have hr := HOVER.out i t0 t1 hix hsn
              subst hr
              have HFI := Lib.hid (fill_over g X n st.seen t x i wr htb hgs.map hix hsn)
              obtain ⟨q0, q1, q2, q3, q4, q5, q6, q7⟩ := c8 hgs.res
              obtain ⟨f0, f1, f2, f3, f4, f5, f6, f7⟩ := f8 hgs.res
              clear HEND HNEED HFORM HOVER HSET hgs hsn hix
              go_wp2_with (first | (go_at_call 20; with_reducible refine HG1.out.mono ?_; rintro e w' ⟨rfl, rfl⟩) | (go_at_call 20; with_reducible refine HG2.out.mono ?_; rintro e w' ⟨rfl, rfl⟩) | (go_at_call 22; with_reducible refine HFI.out.mono ?_; rintro e w' ⟨rfl, rfl⟩))
              refine bodyPost_ret (v := .tuple #[.agg #[.slice none 0 0, .int .u64 0, .int .u64 0, .int .u64 0, .int .u64 0, .int .u64 0, .int .u64 0, .int .u64 0], .int .i64 12]) (by simp [results, Try.results13, go_sem, q0, q1, q2, q3, q4, q5, q6, q7]) rfl ⟨tellsC_err _ _, below_eight HBE.out (Nat.le_refl _) _ _ _ _ _ _ _ _⟩
            | false =>
              have HN := Lib.hid (HSET.out i t0 t1 hix hsn)
              obtain ⟨cx, fx⟩ := hgs.cells hi7
              have HFI := Lib.hid (fill_ok g X n st.seen t x i wr _ htb hgs.map (fun e => hgs.ne.2.2 e.symm) (by unfold maxLen; omega) hgs.ok.seen hix hsn cx fx)
              clear HEND HNEED HFORM HOVER HSET hgs hsn hix cx fx
              go_wp2_with (first | (go_at_call 20; with_reducible refine HG1.out.mono ?_; rintro e w' ⟨rfl, rfl⟩) | (go_at_call 20; with_reducible refine HG2.out.mono ?_; rintro e w' ⟨rfl, rfl⟩))
              refine HFI.out.mono ?_
              rintro r w4 ⟨rfl, hm4, hg4⟩
              have HGP := Lib.hid (HGS.out.put HXB.out hm4 hg4)
              have HB4 : Hid (Below w.heap.size w w4) := Lib.hid ((Below.setCell HBE.out (show w.heap.size ≤ (⟨X, i + 1, none⟩ : Addr).block from hXw) (.int .u64 x)).grown hg4 (by have := HBE.out.size; rw [World.size_setCell]; exact this) (fun q e => by injection e with e; omega))
              clear hm4 hg4
              go_wp2
              go_roundw
              case rel => exact ⟨k + 1, m - 16, cp - 16, _, _, _, n + 1, rfl, by omega, by omega, fun h => by rw [if_neg (by omega), show off + 16 * k + 16 = off + 16 * (k + 1) by omega], by omega, by show st.nd.length ≤ k + 1; omega, HGP.out, HN.out, HB4.out⟩
              case measure => (simp [slen] <;> omega)
end Go.Proofs.Ytngjnbfjlchfgaa
