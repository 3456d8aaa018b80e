
import Derived.Test.YtijgabippedhpaaRows
import Derived.Test.YtijgabippedhpaaGateA
import Derived.Test.YtijgabippedhpaaVoteI
import Derived.Test.YtijgabippedhpaaTail
namespace Go.Proofs.Ytijgabippedhpaa
set_option linter.unusedVariables false
set_option linter.unusedSimpArgs false
open Go.ChangeShapes Go.WideShapes Go.RowKit

/-- What is noted of the first 'K' ports. -/
def noteK (f l : Nat → Int) (K j : Nat) : Int := if j < K ∧ l (j * 2) = 2 then 0 else f j
theorem noteK_end (m : Nat) (f l : Nat → Int) (j : Nat) : noteK f l m j = Gate.note m f l j := by
  unfold noteK Gate.note
  by_cases h : j < m ∧ l (j * 2) = 2
  · rw [if_pos h, if_pos ⟨by omega, h.2⟩]
  · rw [if_neg h, if_neg (fun q => h ⟨by omega, q.2⟩)]
theorem noteK_yes {f l : Nat → Int} {K : Nat} (h : l (K * 2) = 2) (j : Nat) : noteK f l (K + 1) j = if j = K then 0 else noteK f l K j := by
  unfold noteK
  by_cases e : j = K
  · subst e; rw [if_pos ⟨by omega, h⟩, if_pos rfl]
  · rw [if_neg e]
    by_cases q : j < K ∧ l (j * 2) = 2
    · rw [if_pos q, if_pos ⟨by omega, q.2⟩]
    · rw [if_neg q, if_neg (fun r => q ⟨by omega, r.2⟩)]
theorem noteK_no {f l : Nat → Int} {K : Nat} (h : ¬ l (K * 2) = 2) : noteK f l (K + 1) = noteK f l K := by
  funext j
  unfold noteK
  by_cases e : j = K
  · subst e; rw [if_neg (fun r => h r.2), if_neg (fun r => h r.2)]
  · by_cases q : j < K ∧ l (j * 2) = 2
    · rw [if_pos q, if_pos ⟨by omega, q.2⟩]
    · rw [if_neg q, if_neg (fun r => q ⟨by omega, r.2⟩)]
/-- Of Note: nothing beside an error. -/
def noted (n : Int) (f : Nat → Int) (m : Nat) (l : Nat → Int) (j : Nat) : Int := if Gate.wrong n f m l = 0 then Gate.note n f l j else 0
theorem noted_yes {n : Int} {f : Nat → Int} {m : Nat} {l : Nat → Int} (h : Gate.wrong n f m l = 0) (j : Nat) : noted n f m l j = Gate.note n f l j := if_pos h
theorem noted_no {n : Int} {f : Nat → Int} {m : Nat} {l : Nat → Int} (h : ¬ Gate.wrong n f m l = 0) (j : Nat) : noted n f m l j = 0 := if_neg h
set_option maxHeartbeats 4000000 in
theorem refGNote_any (n : Int) (f : Nat → Int) (va : Value) (m : Nat) (l : Nat → Int) (w : World) (hm : m ≤ maxLen) (hl : Prs w va m l) :
    Calls Try.prog 9 #[.int .i64 n, .agg #[.int .i64 (f 0), .int .i64 (f 1), .int .i64 (f 2), .int .i64 (f 3), .int .i64 (f 4), .int .i64 (f 5), .int .i64 (f 6), .int .i64 (f 7), .int .i64 (f 8), .int .i64 (f 9), .int .i64 (f 10), .int .i64 (f 11)], va] w fun e w' => e = .returned (.tuple #[.agg #[.int .i64 (noted n f m l 0), .int .i64 (noted n f m l 1), .int .i64 (noted n f m l 2), .int .i64 (noted n f m l 3), .int .i64 (noted n f m l 4), .int .i64 (noted n f m l 5), .int .i64 (noted n f m l 6), .int .i64 (noted n f m l 7), .int .i64 (noted n f m l 8), .int .i64 (noted n f m l 9), .int .i64 (noted n f m l 10), .int .i64 (noted n f m l 11)], .int .i64 (Gate.wrong n f m l)]) ∧ Below w.heap.size w w' := by
  obtain ⟨p1, c1, rfl⟩ := hl.form
  have CW := Lib.hid (fun w hl => refWrong_any n f (.slice p1 m c1) m l w hm hl)
  by_cases h : Gate.wrong n f m l = 0
  · obtain ⟨hok, hfit⟩ := Gate.wrong_of h
    have h38 := hok.1
    have hmn := hfit.2.1
    have HG : Hid (∀ j, noted n f m l j = Gate.note n f l j) := fun j => noted_yes h j
    generalize noted n f m l = g at *
    rw [h] at CW ⊢
    have HL := Lib.hid hl
    subst hmn
    clear hl h hok hfit
    go_enter Try.func9, Try.ntmps9
    go_wp2_with fail
    have HI0 := Lib.hid ((Ints.box w (noteK f l 0) 24).alloc (.cells #[.int .i64 ((fun _ => (0 : Int)) 0), .int .i64 ((fun _ => (0 : Int)) 1), .int .i64 ((fun _ => (0 : Int)) 2), .int .i64 ((fun _ => (0 : Int)) 3), .int .i64 ((fun _ => (0 : Int)) 4), .int .i64 ((fun _ => (0 : Int)) 5), .int .i64 ((fun _ => (0 : Int)) 6), .int .i64 ((fun _ => (0 : Int)) 7), .int .i64 ((fun _ => (0 : Int)) 8), .int .i64 ((fun _ => (0 : Int)) 9), .int .i64 ((fun _ => (0 : Int)) 10), .int .i64 ((fun _ => (0 : Int)) 11)] 24))
    have HZ0 := Lib.hid (Ints.zeros (w.alloc (.cells #[.int .i64 (noteK f l 0 0), .int .i64 (noteK f l 0 1), .int .i64 (noteK f l 0 2), .int .i64 (noteK f l 0 3), .int .i64 (noteK f l 0 4), .int .i64 (noteK f l 0 5), .int .i64 (noteK f l 0 6), .int .i64 (noteK f l 0 7), .int .i64 (noteK f l 0 8), .int .i64 (noteK f l 0 9), .int .i64 (noteK f l 0 10), .int .i64 (noteK f l 0 11)] 24)) 24)
    simp only [show noteK f l 0 = f from funext fun j => if_neg (by omega)] at HI0 HZ0
    refine (CW.out _ (HL.out.below bel)).mono ?_
    rintro e w1 ⟨rfl, hb⟩
    have hz := hb.size
    (try simp only [World.size_alloc, World.heap_drewN, World.size_drew, World.size_setCell] at hz)
    have HB1 := Lib.hid (show Below w.heap.size w w1 from bel)
    have HI1 := Lib.hid (HI0.out.below hb)
    have HZ1 := Lib.hid (HZ0.out.below hb)
    clear hb HI0 HZ0
    go_wp2_with fail
    go_loopw [9] (fun k wr => ∃ K : Nat, K ≤ m ∧ k = .int .i64 K ∧ Ints wr w.heap.size 12 (noteK f l K) ∧ Ints wr (w.heap.size + 1) 12 (fun _ => 0) ∧ Below w.heap.size w wr) (fun k _ => m - (intOf k).toNat)
    case atStart =>
      have := HB1.out
      refine ⟨0, by omega, rfl, ?_, ?_, bel⟩
      · rw [show noteK f l 0 = f from funext fun j => if_neg (by omega)]; exact HI1.out
      · simpa using HZ1.out
    case round =>
      clear HI1 HZ1 HB1
      obtain ⟨K, hK, rfl, hI, hZ, hb⟩ := hrel
      have HB := Lib.hid hb
      have HI := Lib.hid hI
      have HZ := Lib.hid hZ
      by_cases hlt : K < m
      · have h1 : (K : Int) < m := by omega
        have h8 : (K : Int) < 8 := by omega
        have h0 : (0 : Int) ≤ K := by omega
        obtain ⟨b1, o1, rfl, hl1, hc1⟩ := HL.out.some (by omega)
        obtain ⟨c0, c1⟩ := two_cells hc1 hb hlt
        obtain ⟨k0, f0⟩ := hI.2 K (by omega)
        have hz := hI.1
        clear hb hI hZ hc1
        by_cases hk : l (K * 2) = 2
        · have HN := Lib.hid (fun j => noteK_yes (f := f) hk j)
          rw [hk] at c0
          clear hk
          go_wp2
          go_roundw
          case rel =>
            have := HB.out
            exact ⟨K + 1, by omega, by go_num, HI.out.set K 0 (by omega) _ HN.out, HZ.out.other _ _ _ (by omega), bel⟩
          case measure => simp [intOf]; omega
        · have HN := Lib.hid (noteK_no (f := f) hk)
          have e0 : (l (K * 2) == 2) = false := by simp [hk]
          clear hk
          go_wp2
          go_roundw
          case rel =>
            exact ⟨K + 1, by omega, by go_num, by rw [HN.out]; exact HI.out, HZ.out, HB.out⟩
          case measure => simp [intOf]; omega
      · obtain rfl : K = m := by omega
        have HI := Lib.hid (hI.like (fun j hj => (noteK_end K f l j).trans (HG.out j).symm))
        clear hb hI hZ
        have HI_c0 := (HI.out.2 0 (by decide)).1; have HI_c1 := (HI.out.2 1 (by decide)).1; have HI_c2 := (HI.out.2 2 (by decide)).1; have HI_c3 := (HI.out.2 3 (by decide)).1; have HI_c4 := (HI.out.2 4 (by decide)).1; have HI_c5 := (HI.out.2 5 (by decide)).1; have HI_c6 := (HI.out.2 6 (by decide)).1; have HI_c7 := (HI.out.2 7 (by decide)).1; have HI_c8 := (HI.out.2 8 (by decide)).1; have HI_c9 := (HI.out.2 9 (by decide)).1; have HI_c10 := (HI.out.2 10 (by decide)).1; have HI_c11 := (HI.out.2 11 (by decide)).1; have HI_z := HI.out.1
        have HZ_r := HZ.out.row12; have HZ_c0 := (HZ.out.2 0 (by decide)).1; have HZ_f0 := (HZ.out.2 0 (by decide)).2; have HZ_c1 := (HZ.out.2 1 (by decide)).1; have HZ_f1 := (HZ.out.2 1 (by decide)).2; have HZ_c2 := (HZ.out.2 2 (by decide)).1; have HZ_f2 := (HZ.out.2 2 (by decide)).2; have HZ_c3 := (HZ.out.2 3 (by decide)).1; have HZ_f3 := (HZ.out.2 3 (by decide)).2; have HZ_c4 := (HZ.out.2 4 (by decide)).1; have HZ_f4 := (HZ.out.2 4 (by decide)).2; have HZ_c5 := (HZ.out.2 5 (by decide)).1; have HZ_f5 := (HZ.out.2 5 (by decide)).2; have HZ_c6 := (HZ.out.2 6 (by decide)).1; have HZ_f6 := (HZ.out.2 6 (by decide)).2; have HZ_c7 := (HZ.out.2 7 (by decide)).1; have HZ_f7 := (HZ.out.2 7 (by decide)).2; have HZ_c8 := (HZ.out.2 8 (by decide)).1; have HZ_f8 := (HZ.out.2 8 (by decide)).2; have HZ_c9 := (HZ.out.2 9 (by decide)).1; have HZ_f9 := (HZ.out.2 9 (by decide)).2; have HZ_c10 := (HZ.out.2 10 (by decide)).1; have HZ_f10 := (HZ.out.2 10 (by decide)).2; have HZ_c11 := (HZ.out.2 11 (by decide)).1; have HZ_f11 := (HZ.out.2 11 (by decide)).2; have HZ_z := HZ.out.1
        have := HB.out
        go_wp2
        refine bodyPost_ret (ret_cell_tmp Try.results9 (w.heap.size + 1) [.int .i64 ((g) 0), .int .i64 ((g) 1), .int .i64 ((g) 2), .int .i64 ((g) 3), .int .i64 ((g) 4), .int .i64 ((g) 5), .int .i64 ((g) 6), .int .i64 ((g) 7), .int .i64 ((g) 8), .int .i64 ((g) 9), .int .i64 ((g) 10), .int .i64 ((g) 11)] _ rfl rng Try.underlying24 rfl (by kernel_rfl)) rfl ⟨rfl, ?_⟩; exact bel
  · have HX := Lib.hid (fun j => noted_no h j)
    simp only [noted_no h]
    generalize Gate.wrong n f m l = er at *
    have e0 : (er != 0) = true := by simp [h]
    have HL := Lib.hid hl
    clear hl h
    go_enter Try.func9, Try.ntmps9
    go_wp2_with fail
    have HZ0 := Lib.hid (Ints.zeros (w.alloc (.cells #[.int .i64 (f 0), .int .i64 (f 1), .int .i64 (f 2), .int .i64 (f 3), .int .i64 (f 4), .int .i64 (f 5), .int .i64 (f 6), .int .i64 (f 7), .int .i64 (f 8), .int .i64 (f 9), .int .i64 (f 10), .int .i64 (f 11)] 24)) 24)
    refine (CW.out _ (HL.out.below bel)).mono ?_
    rintro e w1 ⟨rfl, hb⟩
    have hz := hb.size
    (try simp only [World.size_alloc, World.heap_drewN, World.size_drew, World.size_setCell] at hz)
    have HB1 := Lib.hid (show Below w.heap.size w w1 from bel)
    have HZ1 := Lib.hid (HZ0.out.below hb)
    rw [World.size_alloc] at HZ1
    clear hb HZ0
    have HZ1_r := HZ1.out.row12; have HZ1_c0 := (HZ1.out.2 0 (by decide)).1; have HZ1_f0 := (HZ1.out.2 0 (by decide)).2; have HZ1_c1 := (HZ1.out.2 1 (by decide)).1; have HZ1_f1 := (HZ1.out.2 1 (by decide)).2; have HZ1_c2 := (HZ1.out.2 2 (by decide)).1; have HZ1_f2 := (HZ1.out.2 2 (by decide)).2; have HZ1_c3 := (HZ1.out.2 3 (by decide)).1; have HZ1_f3 := (HZ1.out.2 3 (by decide)).2; have HZ1_c4 := (HZ1.out.2 4 (by decide)).1; have HZ1_f4 := (HZ1.out.2 4 (by decide)).2; have HZ1_c5 := (HZ1.out.2 5 (by decide)).1; have HZ1_f5 := (HZ1.out.2 5 (by decide)).2; have HZ1_c6 := (HZ1.out.2 6 (by decide)).1; have HZ1_f6 := (HZ1.out.2 6 (by decide)).2; have HZ1_c7 := (HZ1.out.2 7 (by decide)).1; have HZ1_f7 := (HZ1.out.2 7 (by decide)).2; have HZ1_c8 := (HZ1.out.2 8 (by decide)).1; have HZ1_f8 := (HZ1.out.2 8 (by decide)).2; have HZ1_c9 := (HZ1.out.2 9 (by decide)).1; have HZ1_f9 := (HZ1.out.2 9 (by decide)).2; have HZ1_c10 := (HZ1.out.2 10 (by decide)).1; have HZ1_f10 := (HZ1.out.2 10 (by decide)).2; have HZ1_c11 := (HZ1.out.2 11 (by decide)).1; have HZ1_f11 := (HZ1.out.2 11 (by decide)).2; have HZ1_z := HZ1.out.1
    have := HB1.out
    go_wp2
    refine bodyPost_ret (ret_cell_tmp Try.results9 (w.heap.size + 1) [.int .i64 ((fun _ => 0) 0), .int .i64 ((fun _ => 0) 1), .int .i64 ((fun _ => 0) 2), .int .i64 ((fun _ => 0) 3), .int .i64 ((fun _ => 0) 4), .int .i64 ((fun _ => 0) 5), .int .i64 ((fun _ => 0) 6), .int .i64 ((fun _ => 0) 7), .int .i64 ((fun _ => 0) 8), .int .i64 ((fun _ => 0) 9), .int .i64 ((fun _ => 0) 10), .int .i64 ((fun _ => 0) 11)] _ rfl rng Try.underlying24 rfl (by kernel_rfl)) rfl ⟨rfl, ?_⟩; exact bel
end Go.Proofs.Ytijgabippedhpaa
