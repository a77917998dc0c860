/-
  What is proved here: the document's example: awake of the statements of layer 13.
  Conditions: none.
-/
import Derived.Test.YtahjgbmhleiocaaVmPut
import Derived.Test.YtahjgbmhleiocaaVmProt
import Derived.Test.YtahjgbmhleiocaaVmCopy
import Derived.Test.YtahjgbmhleiocaaVmLd
import Derived.Test.YtahjgbmhleiocaaVmSpan
namespace Go.Proofs.Ytahjgbmhleiocaa
open Go.RowKit Go.WideMaps Go.Maps
set_option linter.unusedVariables false
set_option linter.unusedSimpArgs false

theorem span_one {M : List Pg} {x n : Nat} {p : Pg} (h : findP M (x / 256 * 256) = some p) (hn : n ≠ 0) (hx : x % 256 + n ≤ 256) : spanP M x n = some [⟨x / 256 * 256, x % 256, n⟩] := by
  rw [span_some hn h, show min n (256 - x % 256) = n by omega, show n - n = 0 by omega, span_zero]; rfl
theorem VFr.below {w w' : World} {S S' : VS} {B : Nat} (h : VFr w w' S S') (hB : B ≤ w.heap.size) (ho : ∀ k, S.own k → B ≤ k) : Below B w w' := ⟨h.os, h.tape, h.output, h.size, fun k hk => h.frm k (Nat.lt_of_lt_of_le hk hB) (fun hx => by have := ho k hx; omega)⟩
theorem VFr.own {w w' : World} {S S' : VS} {B : Nat} (h : VFr w w' S S') (hB : B ≤ w.heap.size) (ho : ∀ k, S.own k → B ≤ k) : ∀ k, S'.own k → B ≤ k := fun k hk => by
  rcases h.own' k hk with h1 | h1
  · exact ho k h1
  · omega
def fS : ByteArray := ⟨#[102]⟩
def awA : Pg := newPg 7 fS 0 256 0
def awB : Pg := newPg 7 fS 0 256 1
theorem aw_map : mapR [] 256 512 7 fS 0 = ([awA, awB], 0) := by kernel_rfl
theorem aw_span (M : List Pg) (h : M.map (·.a) = [256, 512]) (x n : Nat) (hx : x / 256 * 256 = 256) (hn : n ≠ 0) (hxn : x % 256 + n ≤ 256) : spanP M x n = some [⟨256, x % 256, n⟩] := by
  cases M with
  | nil => cases h
  | cons p r =>
    have e1 : p.a = 256 := by
      rw [List.map_cons] at h
      exact (List.cons.inj h).1
    have := span_one (M := p :: r) (x := x) (n := n) (p := p) (by rw [hx, findP_cons, if_pos e1]) hn hxn
    rw [hx] at this
    exact this
def awL : List Pt := [⟨256, 44, 8⟩]
def awM : List Pg := mapL setDirty (fillM [awA, awB] awL (digs 7 8)) awL
theorem aw_store : storeR [awA, awB] 300 8 7 = (awM, 0) := by
  have hs := aw_span [awA, awB] rfl 300 8 rfl (by decide) (by decide)
  have ha : accR [awA, awB] 300 8 2 = (0, awL) := by
    unfold accR
    rw [if_pos (by decide)]
    show (match spanP [awA, awB] 300 8 with | none => ((40 : Int), ([] : List Pt)) | some L => if L.any (denyP [awA, awB] 2) = true then (41, []) else (0, L)) = _
    rw [hs]
    kernel_rfl
  unfold storeR
  rw [ha]; rfl
theorem aw_as : awM.map (·.a) = [256, 512] := by kernel_rfl
theorem aw_load : loadR awM 300 8 4 = (7, 0) := by
  have hs := aw_span awM aw_as 300 8 rfl (by decide) (by decide)
  have ha : accR awM 300 8 4 = (0, awL) := by
    unfold accR
    rw [if_pos (by decide)]
    show (match spanP awM 300 8 with | none => ((40 : Int), ([] : List Pt)) | some L => if L.any (denyP awM 4) = true then (41, []) else (0, L)) = _
    rw [hs]
    kernel_rfl
  unfold loadR
  rw [ha]
  have e : num (bytesL awM awL) = 7 := by kernel_rfl
  show ((num (bytesL awM awL) : Int), (0 : Int)) = (7, 0)
  rw [e]
theorem aw_fetch : (fetchR awM 256).2 = 0 := by
  have hs := aw_span awM aw_as 256 8 rfl (by decide) (by decide)
  have ha : accR awM 256 8 1 = (0, [⟨256, 0, 8⟩]) := by
    unfold accR
    rw [if_pos (by decide)]
    show (match spanP awM 256 8 with | none => ((40 : Int), ([] : List Pt)) | some L => if L.any (denyP awM 1) = true then (41, []) else (0, L)) = _
    rw [hs]
    kernel_rfl
  unfold fetchR
  rw [if_pos (by decide)]
  unfold loadR
  rw [ha]; rfl
theorem aw_rng (M : List Pg) (h : M.map (·.a) = [256, 512]) : rngR M 256 256 = (0, [⟨256, 0, 256⟩]) := by
  have hs := aw_span M h 256 256 rfl (by decide) (by decide)
  unfold rngR
  rw [if_pos (by kernel_rfl), hs]
theorem aw_prot : (protR awM 256 256 4).2 = 0 ∧ (protR awM 256 256 4).1 = mapL (setProt 4) awM [⟨256, 0, 256⟩] := by
  unfold protR
  rw [if_pos (by kernel_rfl), aw_rng awM aw_as]
  exact ⟨rfl, rfl⟩
theorem aw_unm : (unmR (mapL (setProt 4) awM [⟨256, 0, 256⟩]) 256 256).2 = 0 := by
  unfold unmR
  rw [aw_rng _ (by kernel_rfl)]
theorem aw_len : awM.length = 2 := by kernel_rfl
theorem aw_put (b0 b1 : Nat) : putE (vps awM [b0, b1]) = 0 := by kernel_rfl
/-- Memory of the call's own. -/
structure AW (w w' : World) (S : VS) (M : List Pg) (g c : Nat) : Prop where
  at0 : VAt w' S M c
  g : S.g = g
  own : ∀ j, S.own j → w.heap.size ≤ j
  bel : Below w.heap.size w w'
theorem AW.later {w w' w2 : World} {S : VS} {M : List Pg} {g c : Nat} (h : AW w w' S M g c) (hb : Below w'.heap.size w' w2) : AW w w2 S M g c :=
  ⟨h.at0.below hb, h.g, h.own, h.bel.trans (hb.mono h.bel.size)⟩
theorem AW.turn {w w' w2 : World} {S : VS} {M N : List Pg} {g c : Nat} (h : AW w w' S M g c) (ha : VAt w2 S N c) (ht : TurnV S w' w2) : AW w w2 S N g c :=
  ⟨ha, h.g, h.own, h.bel.trans (ht.below h.bel.size (fun k hk ho => by have := h.own k ho; omega))⟩
theorem AW.new (w : World) : Calls Try.prog 21 #[] w fun r w' => r = .returned (.pointer (some ⟨w.heap.size, 0, none⟩)) ∧ Hid (AW w w' (VS0 w.heap.size) [] w.heap.size 0) :=
  (vnew_ok w).mono fun r w' h => ⟨h.1, Lib.hid ⟨h.2.1, rfl, fun j hj => Nat.le_of_eq (show w.heap.size = j from (show j = w.heap.size from hj).symm), (Below.refl _ _).grown h.2.2 (Nat.le_refl _) (fun _ h => by cases h)⟩⟩
theorem AW.map {w w' : World} {S : VS} {M : List Pg} {g c : Nat} (h : AW w w' S M g c) (x n : Nat) (prot : Int) (f : ByteArray) (off : Int) (x1 : x ≤ 18446744073709551615) (n1 : n ≤ 18446744073709551615) (hf : f.size ≤ maxLen) (o0 : 0 ≤ off) (o1 : off ≤ 18446744073709551615) (hc : c ≤ 1099511000000) :
    Calls Try.prog 15 #[.pointer (some ⟨g, 0, none⟩), .int .u64 x, .int .u64 n, .int .i64 prot, .string f, .int .u64 off] w' fun r w2 => r = .returned (.int .i64 (mapR M x n prot f off).2) ∧ Hid (∃ S2, AW w w2 S2 (mapR M x n prot f off).1 g (c + 512)) := by
  have h1 := Map_ok h.at0 x n prot f off x1 n1 hf o0 o1 hc
  unfold ptrV at h1
  rw [h.g] at h1
  refine h1.mono ?_
  rintro r w2 ⟨e1, S2, e2, e3⟩
  exact ⟨e1, Lib.hid ⟨S2, e2, e3.g.trans h.g, e3.own h.bel.size h.own, h.bel.trans (e3.below h.bel.size h.own)⟩⟩
theorem AW.store {w w' : World} {S : VS} {M : List Pg} {g c : Nat} (h : AW w w' S M g c) (x : Nat) (n u : Int) (x1 : x ≤ 18446744073709551615) (u0 : 0 ≤ u) (u1 : u ≤ 18446744073709551615) :
    Calls Try.prog 18 #[.pointer (some ⟨g, 0, none⟩), .int .u64 x, .int .i64 n, .int .u64 u] w' fun r w2 => r = .returned (.int .i64 (storeR M x n u).2) ∧ Hid (AW w w2 S (storeR M x n u).1 g c ∧ TurnV S w' w2) := by
  have h1 := Store_ok h.at0 x n u x1 u0 u1
  unfold ptrV at h1
  rw [h.g] at h1
  exact h1.mono fun r w2 e => ⟨e.1, Lib.hid ⟨h.turn e.2.1 e.2.2, e.2.2⟩⟩
theorem AW.load {w w' : World} {S : VS} {M : List Pg} {g c : Nat} (h : AW w w' S M g c) (x : Nat) (n : Int) (x1 : x ≤ 18446744073709551615) :
    Calls Try.prog 12 #[.pointer (some ⟨g, 0, none⟩), .int .u64 x, .int .i64 n] w' fun r w2 => r = .returned (.tuple #[.int .u64 (loadR M x n 4).1, .int .i64 (loadR M x n 4).2]) ∧ Hid (Below w'.heap.size w' w2) := by
  have h1 := Load_ok h.at0 x n x1
  unfold ptrV at h1
  rw [h.g] at h1
  exact h1.mono fun r w2 e => ⟨e.1, Lib.hid e.2⟩
theorem AW.fetch {w w' : World} {S : VS} {M : List Pg} {g c : Nat} (h : AW w w' S M g c) (x : Nat) (x1 : x ≤ 18446744073709551615) :
    Calls Try.prog 13 #[.pointer (some ⟨g, 0, none⟩), .int .u64 x] w' fun r w2 => r = .returned (.tuple #[.int .u64 (fetchR M x).1, .int .i64 (fetchR M x).2]) ∧ Hid (Below w'.heap.size w' w2) := by
  have h1 := Fetch_ok h.at0 x x1
  unfold ptrV at h1
  rw [h.g] at h1
  exact h1.mono fun r w2 e => ⟨e.1, Lib.hid e.2⟩
theorem AW.pages {w w' : World} {S : VS} {M : List Pg} {g c : Nat} (h : AW w w' S M g c) (h12 : M.length ≤ 12) :
    Calls Try.prog 11 #[.pointer (some ⟨g, 0, none⟩)] w' (PagesPost w' M) := by
  have h1 := Pages_ok h.at0 h12
  unfold ptrV at h1
  rw [h.g] at h1
  exact h1
theorem AW.copy {w w' : World} {S : VS} {M : List Pg} {g c : Nat} (h : AW w w' S M g c) :
    Calls Try.prog 20 #[.pointer (some ⟨g, 0, none⟩)] w' fun r w2 => r = .returned (.pointer (some ⟨w'.heap.size, 0, none⟩)) ∧ Hid (∃ S2, AW w' w2 S2 M w'.heap.size M.length) := by
  have h1 := Copy_ok h.at0
  unfold ptrV at h1
  rw [h.g] at h1
  refine h1.mono ?_
  rintro r w2 ⟨e1, S2, e2, e3, e4, e5⟩
  exact ⟨e1, Lib.hid ⟨S2, e2, e3, e4, e5⟩⟩
theorem AW.protect {w w' : World} {S : VS} {M : List Pg} {g c : Nat} (h : AW w w' S M g c) (x n : Nat) (r : Int) (x1 : x ≤ 18446744073709551615) (n1 : n ≤ 18446744073709551615) :
    Calls Try.prog 17 #[.pointer (some ⟨g, 0, none⟩), .int .u64 x, .int .u64 n, .int .i64 r] w' fun e w2 => e = .returned (.int .i64 (protR M x n r).2) ∧ Hid (AW w w2 S (protR M x n r).1 g c) := by
  have h1 := Protect_ok h.at0 x n r x1 n1
  unfold ptrV at h1
  rw [h.g] at h1
  exact h1.mono fun r w2 e => ⟨e.1, Lib.hid (h.turn e.2.1 e.2.2)⟩
theorem AW.unmap {w w' : World} {S : VS} {M : List Pg} {g c : Nat} (h : AW w w' S M g c) (x n : Nat) (x1 : x ≤ 18446744073709551615) (n1 : n ≤ 18446744073709551615) :
    Calls Try.prog 16 #[.pointer (some ⟨g, 0, none⟩), .int .u64 x, .int .u64 n] w' fun e w2 => e = .returned (.int .i64 (unmR M x n).2) ∧ Hid (AW w w2 S (unmR M x n).1 g c) := by
  have h1 := Unmap_ok h.at0 x n x1 n1
  unfold ptrV at h1
  rw [h.g] at h1
  exact h1.mono fun r w2 e => ⟨e.1, Lib.hid (h.turn e.2.1 e.2.2)⟩
theorem mkV_ok {w : World} {p : Pg} {b : Nat} (hp : p.Ok) (hB : Blk w b (pgC p) 63) : (mkV p b).Ok w w.heap.size := by
  obtain ⟨_, _, _, _, hc⟩ := pg_cells hB hp.len
  refine ⟨⟨by show (0 : Int) ≤ (p.a : Int); omega, by have := hp.lt; show (p.a : Int) ≤ 18446744073709551615; omega⟩, ⟨by have := hp.pr; show (-9223372036854775808 : Int) ≤ p.prot; omega, by have := hp.pr; show p.prot ≤ 9223372036854775807; omega⟩, rfl, hp.fi, hp.of, ⟨⟨hp.len, hp.bd, fun _ => ⟨b, 4, rfl, hB.lt, fun i hi => hc i hi⟩⟩, Nat.le_refl _, by show ((256 : Nat) : Int) ≤ 9223372036854775807; decide, fun e => by cases e⟩⟩
theorem vps_n : ∀ (M : List Pg) (bl : List Nat), ∀ s ∈ vps M bl, s.bb.n = 256
  | [], _, s, h => by cases h
  | p :: r, [], s, h => by cases h
  | p :: r, b :: bl, s, h => by
    have h : s ∈ mkV p b :: vps r bl := h
    rcases List.mem_cons.1 h with e | h
    · rw [e]; rfl
    · exact vps_n r bl s h
theorem vps_ok {w : World} {M : List Pg} {bl : List Nat} (hM : ∀ p ∈ M, p.Ok) (hl : bl.length = M.length) (hb : ∀ k, k < M.length → Blk w (bl.getD k 0) (pgC (M.getD k pg0)) 63) : ∀ s ∈ vps M bl, s.Ok w w.heap.size := by
  intro s hs
  obtain ⟨k, hk, rfl⟩ := List.getElem_of_mem hs
  have hk2 : k < M.length := by rw [vps_len hl] at hk; exact hk
  have e : (vps M bl)[k] = mkV (M.getD k pg0) (bl.getD k 0) := by
    have := vps_at hl hk2
    rw [List.getD_eq_getElem?_getD, List.getElem?_eq_getElem hk] at this
    exact this
  rw [e]
  exact mkV_ok (hM _ (pgs_mem hk2)) (hb k hk2)
theorem aw_cells (b0 b1 : Nat) : (Vp.flat (vps awM [b0, b1]))[2]? = some (.bool true) ∧ (Vp.flat (vps awM [b0, b1]))[8]? = some (.bool false) ∧ (Vp.flat (vps awM [b0, b1]))[10]? = some (.int .u64 256) := by
  refine ⟨by kernel_rfl, by kernel_rfl, by kernel_rfl⟩
set_option maxHeartbeats 6400000 in
set_option maxRecDepth 100000 in
theorem awake_ok (w : World) : Calls Try.prog 6 #[] w fun r w' => r = .returned (.bool true) ∧ Below w.heap.size w w' := by
  have HN := Lib.hid (AW.new w)
  go_enter Try.func6, Try.ntmps6
  go_wp2_with fail
  refine HN.out.mono ?_
  rintro r1 w1 ⟨rfl, H1⟩
  have hcs := cmp_sp w.heap.size w1
  have h2 := H1.out.map 256 512 7 fS 0 (by decide) (by decide) (by decide) (by decide) (by decide) (by decide)
  rw [aw_map] at h2
  have H2 := Lib.hid h2
  unfold fS at H2
  clear h2
  go_wp2_with fail
  refine H2.out.mono ?_
  rintro r2 w2 ⟨rfl, h3⟩
  obtain ⟨S, hS⟩ := h3.out
  have h4 := hS.store 300 8 7 (by decide) (by decide) (by decide)
  rw [aw_store] at h4
  have H4 := Lib.hid h4
  clear hS h3 h4 H2 hcs
  go_wp2_with fail
  refine H4.out.mono ?_
  rintro r3 w3 ⟨rfl, h5⟩
  have H5 := Lib.hid h5.out.1
  have h6 := H5.out.load 300 8 (by decide)
  rw [aw_load] at h6
  have H6 := Lib.hid h6
  clear h5 h6 H4
  go_wp2_with fail
  refine H6.out.mono ?_
  rintro r4 w4 ⟨rfl, h7⟩
  have H7 := Lib.hid (H5.out.later h7.out)
  have H8 := Lib.hid (H7.out.pages (by rw [aw_len]; decide))
  clear h7 H6
  go_wp2_with fail
  refine H8.out.mono ?_
  rintro r5 w5 ⟨v5, bl, rfl, hbl, hrow, hbk, hb5⟩
  have H9 := Lib.hid (H7.out.later hb5)
  have h10 := H9.out.fetch 256 (by decide)
  obtain ⟨F, hF⟩ : ∃ F, fetchR awM 256 = F := ⟨_, rfl⟩
  have hF2 := aw_fetch
  rw [hF] at h10 hF2
  rw [hF2] at h10
  have H10 := Lib.hid h10
  rw [aw_len] at hbl hrow hbk
  obtain ⟨b0, b1, rfl⟩ : ∃ b0 b1, bl = [b0, b1] := by
    match bl, hbl with
    | [b0, b1], _ => exact ⟨b0, b1, rfl⟩
  have HROW := Lib.hid hrow
  have HBK := Lib.hid hbk
  clear hbl hrow hbk hb5 h10 hF hF2 H8
  go_wp2_with fail
  refine H10.out.mono ?_
  rintro r6 w6 ⟨rfl, hb6⟩
  have H11 := Lib.hid (H9.out.later hb6.out)
  have hrow6 := Vp.own_below HROW.out hb6.out
  obtain ⟨va, vc, hve, hvc1, hvc2⟩ := Vp.own_slice hrow6
  subst hve
  have hok6 := vps_ok (w := w6) (M := awM) (bl := [b0, b1]) H11.out.at0.ok (by rw [aw_len]; rfl) (fun k hk => by
    rw [aw_len] at hk
    exact (HBK.out k hk).2.later hb6.out)
  have hsl := Vp.Sl.own hok6 hrow6
  have h12 := Put_ok (c := vc) hsl (Nat.le_refl _) (by decide) (fun s hs => by rw [vps_n _ _ s hs]; decide)
  unfold PutPost PutTail at h12
  rw [aw_put] at h12
  obtain ⟨vl, hvl⟩ : ∃ vl, vps awM [b0, b1] = vl := ⟨_, rfl⟩
  have hcl := aw_cells b0 b1
  rw [hvl] at h12 hrow6 hcl
  have hvll : vl.length = 2 := by rw [← hvl, vps_len (by rw [aw_len]; rfl), aw_len]
  have HP := Lib.hid (show Calls Try.prog 7 #[.slice va 2 vc] w6 fun r w' => ∃ gT, r = .returned (.tuple #[.pointer (some ⟨gT, 0, none⟩), .int .i64 0]) ∧ Hid (∃ S3 N, AW w6 w' S3 N gT 2 ∧ N.length = 2) from h12.mono fun r w' hr => by
    obtain ⟨hb, hr⟩ := hr
    rw [if_pos rfl] at hr
    obtain ⟨S3, e1, e2, e3⟩ := hr
    refine ⟨S3.g, e1, Lib.hid ⟨S3, vl.map Vp.pg, ⟨?_, rfl, e3, hb⟩, by rw [List.length_map, hvll]⟩⟩
    rw [hvll] at e2
    exact e2)
  have HR6 := Lib.hid hrow6
  have HCL := Lib.hid hcl
  clear hrow6 hok6 hsl h12 hcl hvl hvll HROW HBK hb6 H10 hvc1 hvc2
  go_wp2_with fail
  refine HP.out.mono ?_
  rintro r7 w7 ⟨gT, rfl, hT⟩
  obtain ⟨S3, N3, hT2, hN3⟩ := hT.out
  have H12 := Lib.hid hT2
  have hr7 := Vp.own_below HR6.out hT2.bel
  obtain ⟨g7, c7, hve7, hb7⟩ : ∃ g c, (Value.slice va 2 vc) = .slice (some ⟨g, 0, none⟩) 2 c ∧ g < w7.heap.size := by
    rcases hr7.2 with ⟨_, e0⟩ | ⟨g, cap, cur, hv, _, hg, _⟩
    · cases e0
    · exact ⟨g, cap, hv, (Array.getElem?_eq_some_iff.1 hg).1⟩
  injection hve7 with e1 _ e3
  subst e1
  subst e3
  have x2 : w7.cell? ⟨g7, 2, none⟩ = some (.bool true) := (hr7.cellAt 2 (by decide)).trans HCL.out.1
  have x8 : w7.cell? ⟨g7, 8, none⟩ = some (.bool false) := (hr7.cellAt 8 (by decide)).trans HCL.out.2.1
  have x10 : w7.cell? ⟨g7, 10, none⟩ = some (.int .u64 256) := (hr7.cellAt 10 (by decide)).trans HCL.out.2.2
  have H13 := Lib.hid (H12.out.pages (by rw [hN3]; decide))
  have HN3 := Lib.hid hN3
  have H14 := Lib.hid (H11.out.later (hT2.bel))
  have hvc : (vc : Int) ≤ 9223372036854775807 := by
    rcases hr7.2 with ⟨_, e0⟩ | ⟨g, cap, cur, hv, _, hg, h1, h2, _⟩
    · cases e0
    · injection hv with _ _ e3
      subst e3
      unfold maxLen at h2; omega
  have hvc2 : (2 : Int) ≤ vc := by
    rcases hr7.2 with ⟨_, e0⟩ | ⟨g, cap, cur, hv, _, hg, h1, h2, _⟩
    · cases e0
    · injection hv with _ _ e3
      subst e3
      omega
  clear hT hT2 hr7 hN3 HP
  go_wp2_with fail
  refine H13.out.mono ?_
  rintro r8 w8 ⟨v8, bl8, rfl, -, hrow8, -, hb8⟩
  obtain ⟨a8, c8, rfl⟩ := own_slp hrow8
  rw [HN3.out]
  have H15 := Lib.hid (H14.out.later hb8)
  have H16 := Lib.hid (H15.out.copy)
  clear hrow8 hb8 H13
  go_wp2_with fail
  refine H16.out.mono ?_
  rintro r9 w9 ⟨rfl, hc9⟩
  obtain ⟨S9, hS9⟩ := hc9.out
  have H17 := Lib.hid (hS9.pages (by rw [aw_len]; decide))
  have H18 := Lib.hid (H15.out.later hS9.bel)
  clear hc9 hS9 H16
  go_wp2_with fail
  refine H17.out.mono ?_
  rintro r10 w10 ⟨v10, bl10, rfl, -, hrow10, -, hb10⟩
  obtain ⟨a10, c10, rfl⟩ := own_slp hrow10
  rw [aw_len]
  have H19 := Lib.hid (H18.out.later hb10)
  have h20 := H19.out.protect 256 256 4 (by decide) (by decide)
  rw [aw_prot.1, aw_prot.2] at h20
  have H20 := Lib.hid h20
  clear hrow10 hb10 h20 H17
  go_wp2_with fail
  refine H20.out.mono ?_
  rintro r11 w11 ⟨rfl, h21⟩
  have h22 := h21.out.unmap 256 256 (by decide) (by decide)
  rw [aw_unm] at h22
  have H22 := Lib.hid h22
  clear h22 h21 H20
  go_wp2_with fail
  refine H22.out.mono ?_
  rintro r12 w12 ⟨rfl, h23⟩
  go_wp2
  go_ret
  exact ⟨rfl, h23.out.bel⟩
end Go.Proofs.Ytahjgbmhleiocaa
