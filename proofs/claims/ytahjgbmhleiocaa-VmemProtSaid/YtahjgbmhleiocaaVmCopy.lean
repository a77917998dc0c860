/-
  What is proved here: Copy of package vmem.
  Conditions: none.
-/
import Derived.Test.YtahjgbmhleiocaaVmMap
namespace Go.Proofs.Ytahjgbmhleiocaa
open Go.RowKit Go.WideMaps Go.Maps
set_option linter.unusedVariables false
set_option linter.unusedSimpArgs false

theorem pg_info {p : Pg} (h : p.b.length = 256) : (Try.prog.info? 63).map (·.size) = some (pgC p).size := by
  rw [pgC_size, h]; kernel_rfl
theorem pgC_one (p : Pg) : (pgC p).all (·.oneCell') = true := by
  rw [Array.all_eq_true']
  intro x hx
  unfold pgC at hx
  simp only [List.mem_toArray, List.mem_cons, List.mem_map] at hx
  rcases hx with rfl | rfl | rfl | rfl | ⟨z, _, rfl⟩ <;> rfl
theorem zero_info : (Try.prog.info? 63).map (fun i => i.zero.map (·.cells)) = some (some Try.zeroCells63) := by kernel_rfl
theorem zero_size : Try.zeroCells63.size = 260 := by kernel_rfl
def CopyPost (w : World) (M : List Pg) (r : Ending) (w' : World) : Prop :=
  r = .returned (ptrV w.heap.size) ∧ ∃ S2, VAt w' S2 M M.length ∧ S2.g = w.heap.size ∧ (∀ j, S2.own j → w.heap.size ≤ j) ∧ Below w.heap.size w w'
set_option maxHeartbeats 12800000 in
set_option maxRecDepth 100000 in
theorem Copy_ok {w : World} {S : VS} {M : List Pg} {c : Nat} (h : VAt w S M c) :
    Calls Try.prog 20 #[ptrV S.g] w (CopyPost w M) := by
  have HH := Lib.hid h
  have hcs := cmp_sp S.g w
  have HN := Lib.hid (vnew_ok w)
  unfold CopyPost
  clear h
  unfold ptrV at *
  go_enter Try.func20, Try.ntmps20
  go_wp2_with fail
  refine HN.out.mono ?_
  rintro r0 w1 ⟨rfl, hat1, hg1⟩
  have hb1 : Below w.heap.size w w1 := (Below.refl _ _).grown hg1 (Nat.le_refl _) (fun _ h => by cases h)
  have HA1 := Lib.hid hat1
  have HB1 := Lib.hid hb1
  have HS1 := Lib.hid (HH.out.below hb1)
  have hlt1 := hat1.sm w.heap.size rfl
  have HL1 := Lib.hid hlt1
  have c0 : w1.cell? ⟨S.g, 0, none⟩ = some (.map S.m) := HS1.out.sp.cell 0
  clear hg1 hat1 hb1 HN hlt1
  go_wp2_with (first | (at_range; refine wpList_range_v _ rfl _ rfl rfl HS1.out ?_; intro w2 left0 cnt0 hrg0 hall0 hcnt0 hg0 hs0) | go_in)
  go_frame
  have hb2 : Below w1.heap.size w1 w2 := (Below.refl _ _).grown hg0 (Nat.le_refl _) (fun _ h => by cases h)
  go_loopw [4, 5, 6] (fun _ _ _ wr => ∃ (left : Lit → Bool) (cnt : Nat) (S2 : VS), RngV wr S M w1.heap.size left cnt ∧ Hid (VAt wr S2 (come left M) (come left M).length) ∧ S2.g = w.heap.size ∧ Hid (∀ j, S2.own j → w.heap.size ≤ j ∧ j ≠ w1.heap.size) ∧ Hid (Below w.heap.size w wr)) (fun _ _ _ wr => lftV S w1.heap.size wr)
  case atStart => exact ⟨_, _, VS0 w.heap.size, hrg0, Lib.hid (by rw [come_start hall0]; exact HA1.out.below hb2), rfl, Lib.hid (fun j hj => by
    have hj : j = w.heap.size := hj
    have := HL1.out
    omega), Lib.hid (HB1.out.trans (hb2.mono HB1.out.size))⟩
  case round =>
    clear hrg0 hall0 hcnt0 hg0 hs0 hb2
    obtain ⟨left, cnt, S2, hrg, HAT, hg2, HO, HB⟩ := hrel
    have HRNG := Lib.hid hrg
    have HG2 := Lib.hid hg2
    go_wp2_with (first | (at_next; refine wpList_next_v _ rfl _ rfl rfl HRNG.out ?_ ?_) | go_in)
    · intro hl0
      have he := come_end2 hl0
      have HE := Lib.hid he
      clear hl0 he hrg hg2
      go_wp2
      go_ret
      exact ⟨rfl, S2, by have := HAT.out; rw [HE.out] at this; exact this, HG2.out, fun j hj => (HO.out j hj).1, HB.out⟩
    · intro p w3 cnt1 hp hlx hrg1 hlt hg3 hs3 hen
      obtain ⟨hpm, _⟩ := findP_mem hp
      obtain ⟨n1, n2, n3⟩ := come_step HH.out.so hp hlx
      have hok := HH.out.ok p hpm
      have hrz := HRNG.out.lt
      have hb3 : Below w.heap.size w w3 := HB.out.grown hg3 HB.out.size (fun j h => by injection h with h; have := HB1.out.size; omega)
      have HBP : Hid (w3.heap[S.pb p.a]? = some (.cells (pgC p) 63 (0, 0))) := Lib.hid ((HH.out.below hb3).pg p hpm)
      have HSZ := Lib.hid (pg_info hok.len)
      have HONE := Lib.hid (pgC_one p)
      have HNB : Hid ((w3.alloc (.cells Try.zeroCells63 63)).heap[w3.heap.size]? = some (.cells Try.zeroCells63 63 (0, 0))) := Lib.hid (Blk.new w3 _ _)
      have HZS : Hid (Try.zeroCells63.size = (pgC p).size) := Lib.hid (by rw [zero_size, pgC_size, hok.len])
      have hat3 : VAt w3 S2 (come left M) (come left M).length := HAT.out.grown hg3 (fun k hk ho => by injection hk with hk; exact (HO.out k ho).2 hk.symm)
      have HADD : Hid (Calls Try.prog 27 #[.pointer (some ⟨w.heap.size, 0, none⟩), .int .u64 p.a, .pointer (some ⟨w3.heap.size, 0, none⟩)] (w3.alloc (.cells (pgC p) 63)) fun r w' => r = .returned (.tuple #[]) ∧ Hid (∃ S3, RngV w' S M w1.heap.size (fun z => left z && !z.sameKey (keyU p.a)) cnt1 ∧ VAt w' S3 (come (fun z => left z && !z.sameKey (keyU p.a)) M) (come (fun z => left z && !z.sameKey (keyU p.a)) M).length ∧ S3.g = w.heap.size ∧ (∀ j, S3.own j → w.heap.size ≤ j ∧ j ≠ w1.heap.size) ∧ Below w.heap.size w w')) := Lib.hid (by
        have hba : Below w3.heap.size w3 (w3.alloc (.cells (pgC p) 63)) := (Below.refl _ _).alloc (Nat.le_refl _) _
        have h := add_ok (hat3.below hba) hok n1 (by have := HH.out.le; omega) (by have := HH.out.le; omega) (Blk.new w3 (pgC p) _) (fun ho => Nat.lt_irrefl _ (hat3.sm _ ho))
        rw [HG2.out] at h
        refine h.mono ?_
        rintro r w' ⟨rfl, S3, h1, h2, h3, h4, h5, h6, h7, h8⟩
        have hrz3 : w1.heap.size < w3.heap.size := hrg1.lt
        have hz3 : w3.heap.size ≤ (w3.alloc (.cells (pgC p) 63)).heap.size := hba.size
        have hkeep : ∀ j, j < w3.heap.size → ¬ S2.own j → w'.heap[j]? = w3.heap[j]? := fun j hj hn => (h4 j (Nat.lt_of_lt_of_le hj hz3) hn).trans (hba.block j hj)
        refine ⟨rfl, Lib.hid ⟨S3, hrg1.same (fun e => by rw [e] at hpm; cases hpm) (fun b hb => hkeep b ?_ (fun ho => ?_)) (hkeep _ hrz3 (fun ho => (HO.out _ ho).2 rfl)), ?_, h2, fun j hj => ?_, ?_⟩⟩
        · exact Nat.lt_of_lt_of_le (HH.out.sm b (HH.out.om b hb)) hb3.size
        · have := HH.out.sm b (HH.out.om b hb)
          have := (HO.out b ho).1
          omega
        · rw [← n2, ins_len]; exact h1
        · have hw1 := HB1.out.size
          have hw3 := hb3.size
          rcases h3 j hj with h | h | h
          · exact HO.out j h
          · omega
          · omega
        · exact ⟨h5.trans (hba.os.trans hb3.os), h6.trans (hba.tape.trans hb3.tape), h7.trans (hba.output.trans hb3.output), Nat.le_trans hb3.size (Nat.le_trans hz3 h8), fun j hj => (hkeep j (Nat.lt_of_lt_of_le hj hb3.size) (fun ho => by have := (HO.out j ho).1; omega)).trans (hb3.block j hj)⟩)
      have HLT := Lib.hid hlt
      have HLQ : Hid (lftV S w1.heap.size wr = cnt) := Lib.hid hrg.left_eq
      clear hp hpm n1 n2 n3 hok hb3 hat3 hrg1 hrg hlt hg3 hs3 hlx hrz HRNG hg2
      unfold ptrV at hen ⊢
      go_wp2_with (first
        | (refine wpList_load_row rfl 63 _ rfl (S.pb p.a) rfl _ _ (0, 0) _ HBP.out Try.underlying63 rfl HSZ.out ?_)
        | (refine wpList_alloc_eq rfl 63 rfl Try.zeroCells63 zero_info ?_)
        | (refine wpList_store_row rfl 63 _ _ rfl w3.heap.size (pgC p) rfl rfl _ _ HNB.out HSZ.out HZS.out HONE.out ?_; rw [alloc_setRow]))
      refine HADD.out.mono ?_
      rintro r w5 ⟨rfl, HE5⟩
      go_wp2
      go_roundw
      case rel =>
        obtain ⟨S3, e1, e2, e3, e4, e5⟩ := HE5.out
        exact ⟨_, cnt1, S3, e1, Lib.hid e2, e3, Lib.hid e4, Lib.hid e5⟩
      case measure =>
        obtain ⟨S3, e1, e2, e3, e4, e5⟩ := HE5.out
        rw [e1.left_eq, HLQ.out]; exact HLT.out
end Go.Proofs.Ytahjgbmhleiocaa
