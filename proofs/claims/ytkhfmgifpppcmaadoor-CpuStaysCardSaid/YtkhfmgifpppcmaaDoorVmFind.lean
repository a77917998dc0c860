/-
  What is proved here: find of package vmem.
  Conditions: none.
-/
import Derived.Test.YtkhfmgifpppcmaaDoorVmAdd
import Derived.Test.YtkhfmgifpppcmaaDoorODown
import Derived.Test.YtkhfmgifpppcmaaDoorAppG
namespace Go.Proofs.YtkhfmgifpppcmaaDoor
open Go.RowKit Go.WideMaps Go.Maps
set_option linter.unusedVariables false
set_option linter.unusedSimpArgs false

def ptC (S : VS) (p : Pt) : List Value := [ptrV (S.pb p.a), .slice (some ⟨S.pb p.a, 4 + p.o, none⟩) p.n (256 - p.o)]
def ptCs (S : VS) (L : List Pt) : List Value := L.flatMap (ptC S)
theorem ptCs_snoc (S : VS) (L : List Pt) (p : Pt) : ptCs S (L ++ [p]) = ptCs S L ++ ptC S p := by unfold ptCs; rw [List.flatMap_append]; simp
theorem info_pt : (Tryd.prog.info? 74).map (fun i => (i.zero, i.size, i.bytes)) = some (some (.agg #[.pointer none, .slice none 0 0]), 2, 32) := by kernel_rfl
theorem cmp_sp (b : Nat) (w : World) : (binOp .eql 27 (.pointer (some ⟨b, 0, none⟩)) (.pointer none)).run Tryd.prog w = .ok (.bool false) w := by kernel_rfl
theorem cmp_pg (b : Nat) (w : World) : (binOp .eql 51 (.pointer (some ⟨b, 0, none⟩)) (.pointer none)).run Tryd.prog w = .ok (.bool false) w := by kernel_rfl
theorem cmp_pn (w : World) : (binOp .eql 51 (.pointer none) (.pointer none)).run Tryd.prog w = .ok (.bool true) w := by kernel_rfl
theorem slice_arr (b i o : Nat) (ho : o ≤ 255) (wx : World) : (Instr.sliceAt 52 (.pointer (some ⟨b, i, none⟩)) (some (.int .u64 o)) none none).run Tryd.prog wx = .ok (.slice (some ⟨b, i + o, none⟩) (256 - o) (256 - o)) wx := by
  have hu : Tryd.prog.underlying 52 = some (.array 256 5) := Tryd.underlying52
  have hz : ∀ w, (sizeOf 5).run Tryd.prog w = .ok 1 w := fun w => by kernel_rfl
  simp [Instr.sliceAt, run_underlying hu, Instr.sureAddr, Instr.sliceBounds, run_sliceBound, hz, Sem.run_bind, Sem.run_pure, Result.andThen, show (o : Int) ≤ 256 by omega, show ¬ 256 = o by omega, Addr.add]
theorem own_slp {w : World} {base s n : Nat} {e : TypeId} {v : Value} {xs : List Value} (h : w.ownsRow base e s v n xs) : ∃ a c, v = .slice a n c := by
  rcases h.2 with ⟨hv, e0⟩ | ⟨g, c, cur, hv, hb, _⟩
  · exact ⟨_, _, by rw [hv, e0]⟩
  · exact ⟨_, _, hv⟩
theorem _root_.Go.World.ownsRow.alloc2 {w : World} {base s n : Nat} {e : TypeId} {v : Value} {xs : List Value} (h : w.ownsRow base e s v n xs) (o : Obj) : (w.alloc o).ownsRow base e s v n xs := h.alloc o
def FindPost (S : VS) (w : World) (R : Option (List Pt)) (r : Ending) (w' : World) : Prop :=
  Below w.heap.size w w' ∧ match R with
    | none => r = .returned (.tuple #[.slice none 0 0, .int .i64 40])
    | some L => ∃ v, r = .returned (.tuple #[v, .int .i64 0]) ∧ w'.ownsRow w.heap.size 74 2 v L.length (ptCs S L)
theorem isp2_256 : IsP2 256 := ⟨8, by decide, by decide⟩
set_option maxHeartbeats 6400000 in
set_option maxRecDepth 100000 in
theorem vfind_ok {w : World} {S : VS} {M : List Pg} {c : Nat} (h : VAt w S M c) (x n : Nat) (x1 : x ≤ 18446744073709551615) (n1 : n ≤ 1099511627776) :
    Calls Tryd.prog 15 #[ptrV S.g, .int .u64 x, .int .u64 n] w (FindPost S w (spanP M x n)) := by
  have HH := Lib.hid h
  obtain ⟨R, hR⟩ : ∃ R, spanP M x n = R := ⟨_, rfl⟩
  rw [hR]
  have HR := Lib.hid hR
  obtain ⟨i0, hi0, hz0, hz1, hz2⟩ := info_parts info_pt
  have HI := Lib.hid hi0
  have HZ0 := Lib.hid hz0
  have HZ1 := Lib.hid hz1
  have HZ2 := Lib.hid hz2
  have hq := cmp_sp S.g w
  clear hi0 hz0 hz1 hz2 hR h
  unfold ptrV
  go_enter Tryd.func15, Tryd.ntmps15
  go_wp2
  go_loopw [1, 2, 8, 9, 10, 11, 12] (fun xv nv v _ _ _ _ wr => ∃ (L : List Pt) (xk nk : Nat), xv = .int .u64 xk ∧ nv = .int .u64 nk ∧ xk ≤ 18446744073709551615 ∧ nk + L.length ≤ n ∧ Hid (wr.ownsRow w.heap.size 74 2 v L.length (ptCs S L)) ∧ Hid (Below w.heap.size w wr) ∧ Hid ((spanP M xk nk).map (L ++ ·) = R)) (fun _ nv _ _ _ _ _ _ => (intOf nv).toNat)
  case atStart => exact ⟨[], x, n, rfl, rfl, x1, by simp, Lib.hid (World.ownsRow_nil _ _ _ _), Lib.hid (Below.refl _ _), Lib.hid (by rw [HR.out]; cases R <;> simp)⟩
  case round =>
    obtain ⟨L, xk, nk, rfl, rfl, xk1, hnk, HO, HB, HS⟩ := hrel
    by_cases hz : nk = 0
    · subst hz
      have hzi : ¬ (0 : Int) < ((0 : Nat) : Int) := by omega
      have HE : Hid (R = some L) := Lib.hid (by have := HS.out; rw [span_zero] at this; simpa using this.symm)
      go_wp2
      go_ret2
      unfold FindPost
      rw [HE.out]
      exact ⟨HB.out, _, rfl, HO.out⟩
    · have hzi : (0 : Int) < nk := by omega
      go_wp2_with fail
      refine (down_ok xk 256 wr (by omega) (by omega) isp2_256).mono ?_
      rintro r w' ⟨rfl, rfl⟩
      obtain ⟨A, hA⟩ : ∃ A, xk / 256 * 256 = A := ⟨_, rfl⟩
      have hAi : (xk : Int) / 256 * 256 = (A : Int) := by omega
      rw [hAi]
      have hat := HH.out.below HB.out
      have c0 : wr.cell? ⟨S.g, 0, none⟩ = some (.map S.m) := hat.sp.cell 0
      have hlk := hat.mp.look (x := A) (by omega)
      cases hf : findP M A with
      | none =>
        rw [hf] at hlk
        have hlk2 : (Instr.lookup 45 (.map S.m) (.int .u64 A) false).run Tryd.prog wr = .ok (.pointer none) wr := hlk
        clear hlk
        have HE : Hid (R = none) := Lib.hid (by have := HS.out; rw [span_none hz (by rw [hA]; exact hf)] at this; simpa using this.symm)
        have hpn := cmp_pn wr
        clear hat hf hA hAi
        go_wp2
        go_ret2
        unfold FindPost
        rw [HE.out]
        exact ⟨HB.out, rfl⟩
      | some p =>
        rw [hf] at hlk
        have hlk2 : (Instr.lookup 45 (.map S.m) (.int .u64 A) false).run Tryd.prog wr = .ok (.pointer (some ⟨S.pb A, 0, none⟩)) wr := hlk
        clear hlk
        have hcp := cmp_pg (S.pb A) wr
        obtain ⟨o, ho⟩ : ∃ o, xk % 256 = o := ⟨_, rfl⟩
        have hsub : IntKind.u64.wrap ((xk : Int) - A) = (o : Int) := by
          show ((xk : Int) - A) % 18446744073709551616 = o
          omega
        have harr : Tryd.prog.arrayLen 52 = 256 := by kernel_rfl
        have ho1 : o ≤ 255 := by omega
        have hsl : ∀ b i wx, (Instr.sliceAt 52 (.pointer (some ⟨b, i, none⟩)) (some (.int .u64 o)) none none).run Tryd.prog wx = .ok (.slice (some ⟨b, i + o, none⟩) (256 - o) (256 - o)) wx := fun b i wx => slice_arr b i o ho1 wx
        have hpo := hat.ok p (findP_mem hf).1
        have hpa : p.a = A := (findP_mem hf).2
        have hAl : A < 4294967296 := by rw [← hpa]; exact hpo.lt
        have hxl : xk < 4294967296 := by have := hpo.al; omega
        by_cases hle : nk ≤ 256 - o
        · have hlei : (nk : Int) ≤ ((256 - o : Nat) : Int) := by omega
          have hkk : min nk (256 - o) = nk := by omega
          have hk1 : nk ≤ 256 - o := by omega
          have hk2 : 1 ≤ nk := by omega
          have hk3 : nk ≤ nk := by omega
          have hk1i : (((nk : Nat)) : Int) ≤ ((256 - o : Nat) : Int) := by omega
          have hcz : ¬ 256 - o = 0 := by omega
          have hcv : IntKind.u64.wrap (((nk : Nat)) : Int) = (((nk : Nat)) : Int) := by
            show (((nk : Nat)) : Int) % 18446744073709551616 = nk
            omega
          have hxk : IntKind.u64.wrap ((xk : Int) + ((nk : Nat))) = ((xk + (nk) : Nat) : Int) := by
            show ((xk : Int) + ((nk : Nat))) % 18446744073709551616 = _
            omega
          have hnn : IntKind.u64.wrap ((nk : Int) - ((nk : Nat))) = ((nk - (nk) : Nat) : Int) := by
            show ((nk : Int) - ((nk : Nat))) % 18446744073709551616 = _
            omega
          obtain ⟨va, vc, hve⟩ := own_slp HO.out
          subst hve
          have HS2 : Hid ((spanP M (xk + ((nk : Nat))) (nk - ((nk : Nat)))).map ((L ++ [(⟨A, o, nk⟩ : Pt)]) ++ ·) = R) := Lib.hid (by
            have := HS.out
            rw [span_some hz (by rw [hA]; exact hf), hA, ho, hkk] at this
            rw [← this]
            cases spanP M (xk + ((nk : Nat))) (nk - ((nk : Nat))) <;> simp)
          clear hat hf hA hAi hpo hpa hAl ho HS
          go_wp2_with (at_builtin; refine wpList_append_own _ rfl _ _ 56 rfl w.heap.size 74 i0 _ 2 32 Tryd.underlying56 HI.out HZ0.out HZ1.out HZ2.out rfl (by decide) _ L.length (ptCs S L) rfl (HO.out.alloc2 _) _ 1 1 [.pointer (some ⟨S.pb A, 0, none⟩), .slice (some ⟨S.pb A, 4 + o, none⟩) (nk) (256 - o)] rfl rfl ?d1 ?d2 ?d3 ?d4 ?d5 ?_)
          case d1 => exact lit_cells wr [.pointer (some ⟨S.pb A, 0, none⟩), .slice (some ⟨S.pb A, 4 + o, none⟩) (nk) (256 - o)] _ _ (by simp)
          case d2 => intro u hu; simp at hu; rcases hu with rfl | rfl <;> rfl
          case d3 => unfold maxLen; omega
          case d4 => omega
          case d5 => have := HB.out.size; first | omega | (simp; omega)
          intro v2 w2 ho2 hg2 _
          have HO2 : Hid (w2.ownsRow w.heap.size 74 2 v2 (L ++ [(⟨A, o, nk⟩ : Pt)]).length (ptCs S (L ++ [(⟨A, o, nk⟩ : Pt)]))) := Lib.hid (by rw [ptCs_snoc]; simpa [ptC, ptrV] using ho2)
          have HB2 : Hid (Below w.heap.size w w2) := Lib.hid ((HB.out.alloc HB.out.size _).grown hg2 (by have := HB.out.size; simp; omega) (fun j hj => (HO.out.lt j hj).1))
          clear ho2 hg2
          go_wp2
          go_roundw
          case rel => exact ⟨L ++ [(⟨A, o, nk⟩ : Pt)], xk + (nk), nk - (nk), by first | rfl | simp, by first | rfl | simp, by omega, by simp; omega, HO2, HB2, HS2⟩
          case measure => simp [intOf]; omega
        · have hlei : ¬ (nk : Int) ≤ ((256 - o : Nat) : Int) := by omega
          have hlei2 : ((256 - o : Nat) : Int) < (nk : Int) := by omega
          have hkk : min nk (256 - o) = (256 - o) := by omega
          have hk1 : (256 - o) ≤ 256 - o := by omega
          have hk2 : 1 ≤ (256 - o) := by omega
          have hk3 : (256 - o) ≤ nk := by omega
          have hk1i : ((((256 - o) : Nat)) : Int) ≤ ((256 - o : Nat) : Int) := by omega
          have hcz : ¬ 256 - o = 0 := by omega
          have hcv : IntKind.u64.wrap ((((256 - o) : Nat)) : Int) = ((((256 - o) : Nat)) : Int) := by
            show ((((256 - o) : Nat)) : Int) % 18446744073709551616 = ((256 - o : Nat) : Int)
            omega
          have hxk : IntKind.u64.wrap ((xk : Int) + (((256 - o) : Nat))) = ((xk + ((256 - o)) : Nat) : Int) := by
            show ((xk : Int) + (((256 - o) : Nat))) % 18446744073709551616 = _
            omega
          have hnn : IntKind.u64.wrap ((nk : Int) - (((256 - o) : Nat))) = ((nk - ((256 - o)) : Nat) : Int) := by
            show ((nk : Int) - (((256 - o) : Nat))) % 18446744073709551616 = _
            omega
          obtain ⟨va, vc, hve⟩ := own_slp HO.out
          subst hve
          have HS2 : Hid ((spanP M (xk + (((256 - o) : Nat))) (nk - (((256 - o) : Nat)))).map ((L ++ [(⟨A, o, 256 - o⟩ : Pt)]) ++ ·) = R) := Lib.hid (by
            have := HS.out
            rw [span_some hz (by rw [hA]; exact hf), hA, ho, hkk] at this
            rw [← this]
            cases spanP M (xk + (((256 - o) : Nat))) (nk - (((256 - o) : Nat))) <;> simp)
          clear hat hf hA hAi hpo hpa hAl ho HS
          go_wp2_with (at_builtin; refine wpList_append_own _ rfl _ _ 56 rfl w.heap.size 74 i0 _ 2 32 Tryd.underlying56 HI.out HZ0.out HZ1.out HZ2.out rfl (by decide) _ L.length (ptCs S L) rfl (HO.out.alloc2 _) _ 1 1 [.pointer (some ⟨S.pb A, 0, none⟩), .slice (some ⟨S.pb A, 4 + o, none⟩) ((256 - o)) (256 - o)] rfl rfl ?d1 ?d2 ?d3 ?d4 ?d5 ?_)
          case d1 => exact lit_cells wr [.pointer (some ⟨S.pb A, 0, none⟩), .slice (some ⟨S.pb A, 4 + o, none⟩) ((256 - o)) (256 - o)] _ _ (by simp)
          case d2 => intro u hu; simp at hu; rcases hu with rfl | rfl <;> rfl
          case d3 => unfold maxLen; omega
          case d4 => omega
          case d5 => have := HB.out.size; first | omega | (simp; omega)
          intro v2 w2 ho2 hg2 _
          have HO2 : Hid (w2.ownsRow w.heap.size 74 2 v2 (L ++ [(⟨A, o, 256 - o⟩ : Pt)]).length (ptCs S (L ++ [(⟨A, o, 256 - o⟩ : Pt)]))) := Lib.hid (by rw [ptCs_snoc]; simpa [ptC, ptrV] using ho2)
          have HB2 : Hid (Below w.heap.size w w2) := Lib.hid ((HB.out.alloc HB.out.size _).grown hg2 (by have := HB.out.size; simp; omega) (fun j hj => (HO.out.lt j hj).1))
          clear ho2 hg2
          go_wp2
          go_roundw
          case rel => exact ⟨L ++ [(⟨A, o, 256 - o⟩ : Pt)], xk + ((256 - o)), nk - ((256 - o)), by first | rfl | simp, by first | rfl | simp, by omega, by simp; omega, HO2, HB2, HS2⟩
          case measure => simp [intOf]; omega
end Go.Proofs.YtkhfmgifpppcmaaDoor
