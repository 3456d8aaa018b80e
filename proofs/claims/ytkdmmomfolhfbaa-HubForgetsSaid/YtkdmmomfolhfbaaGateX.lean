
import Derived.Test.YtkdmmomfolhfbaaRows
import Derived.Test.YtkdmmomfolhfbaaPure
import Derived.Test.YtkdmmomfolhfbaaVoteX
import Derived.Test.YtkdmmomfolhfbaaMem
namespace Go.Proofs.Ytkdmmomfolhfbaa
set_option linter.unusedVariables false
set_option linter.unusedSimpArgs false
open Go.ChangeShapes Go.WideShapes Go.RowKit

theorem at_none {l : Nat → Int} {p : Nat} (h0 : l (p * 2) = 0) (h1 : l (p * 2 + 1) = 0) : Gate.At l p := Or.inl ⟨h0, h1⟩
theorem at_one {l : Nat → Int} {p : Nat} {k : Int} (hk : k = 1 ∨ k = 2) (h0 : l (p * 2) = k) (h1 : l (p * 2 + 1) = p) : Gate.At l p := Or.inr ⟨by omega, h1⟩
set_option maxHeartbeats 2000000 in
theorem refGFits_any (n : Int) (va : Value) (m : Nat) (l : Nat → Int) (w : World) (hm : m ≤ maxLen) (hl : Prs w va m l) :
    Calls Try.prog 15 #[.int .i64 n, va] w fun e w' => e = .returned (.bool (Gate.fits n m l)) ∧ Below w.heap.size w w' := by
  obtain ⟨p1, c1, rfl⟩ := hl.form
  have hml : maxLen = 9223372036854775807 := by unfold maxLen; rfl
  rw [hml] at hm
  have HL := Lib.hid hl
  clear hl hml
  go_enter Try.func15, Try.ntmps15
  go_wp2_with fail
  go_loopw [5] (fun k wr => ∃ K : Nat, K ≤ m ∧ k = .int .i64 K ∧ Below w.heap.size w wr ∧ ∀ p, p < K → Gate.At l p) (fun k _ => m - (intOf k).toNat)
  case atStart => exact ⟨0, by omega, rfl, bel, fun j hj => by omega⟩
  case round =>
    obtain ⟨K, hK, rfl, hb, hq⟩ := hrel
    have HB := Lib.hid hb
    have HQ := Lib.hid hq
    by_cases hlt : K < m
    · have h1 : (K : Int) < m := by omega
      have h0 : (0 : Int) ≤ K := by omega
      obtain ⟨b1, o1, rfl, hl1, hc1⟩ := HL.out.some (by omega)
      obtain ⟨c0, c1⟩ := two_cells hc1 hb hlt
      clear hb hq hc1
      have HA := Lib.hid (fun h0 h1 => at_none (l := l) (p := K) h0 h1)
      have HO := Lib.hid (fun (k : Int) hk h0 h1 => at_one (l := l) (p := K) (k := k) hk h0 h1)
      have HN : Hid (¬ Gate.At l K → Gate.fits n m l = false) := fun h => Gate.fits_no (fun q => h (q.2.2 K hlt))
      have HT : Hid (Gate.At l K → (l (K * 2) = 0 ∧ l (K * 2 + 1) = 0) ∨ ((l (K * 2) = 1 ∨ l (K * 2) = 2) ∧ l (K * 2 + 1) = K)) := fun h => h
      generalize l (K * 2) = k at *
      generalize l (K * 2 + 1) = i at *
      by_cases hk : k = 1 ∨ k = 2
      · by_cases hi : i = K
        · have HAT := Lib.hid (HO.out k hk rfl hi)
          subst hi
          rcases hk with rfl | rfl
          all_goals
            go_wp2
            go_roundw
            case rel =>
              have := HB.out
              refine ⟨K + 1, by omega, by go_num, bel, fun j hj => ?_⟩
              by_cases e : j = K
              · subst e; exact HAT.out
              · exact HQ.out j (by omega)
            case measure => simp [intOf]; omega
        · have HF := Lib.hid (HN.out (fun q => by have := HT.out q; omega))
          have e0 : (i == (K : Int)) = false := by simp [hi]
          clear hi
          rcases hk with rfl | rfl
          all_goals
            have := HB.out
            go_wp2
            go_ret
            exact ⟨by rw [HF.out]; rfl, bel⟩
      · have e1 : (k == 1) = false := by simp; omega
        have e2 : (k == 2) = false := by simp; omega
        by_cases h00 : k = 0 ∧ i = 0
        · have HAT := Lib.hid (HA.out h00.1 h00.2)
          obtain ⟨rfl, rfl⟩ := h00
          clear hk e1 e2
          go_wp2
          go_roundw
          case rel =>
            have := HB.out
            refine ⟨K + 1, by omega, by go_num, bel, fun j hj => ?_⟩
            by_cases e : j = K
            · subst e; exact HAT.out
            · exact HQ.out j (by omega)
          case measure => simp [intOf]; omega
        · have HF := Lib.hid (HN.out (fun q => by have := HT.out q; omega))
          by_cases hk0 : k = 0
          · have e3 : (i == 0) = false := by simp; omega
            subst hk0
            clear hk e1 e2 h00
            have := HB.out
            go_wp2
            go_ret
            exact ⟨by rw [HF.out]; rfl, bel⟩
          · have e3 : (k == 0) = false := by simp [hk0]
            clear hk h00 hk0
            have := HB.out
            go_wp2
            go_ret
            exact ⟨by rw [HF.out]; rfl, bel⟩
    · obtain rfl : K = m := by omega
      clear hb hq
      have HB2 := HB
      by_cases hr : Conf.right n = true
      · have h38 := Conf.right_spec.1 hr
        by_cases he : (K : Int) = n
        · have HF : Hid (Gate.fits n K l = true) := Gate.fits_iff.2 ⟨h38, he, HQ.out⟩
          subst he
          go_wp2_with fail
          refine (refCright_any _ _).mono ?_; rintro e w' ⟨rfl, rfl⟩
          rw [hr]
          have := HB.out
          go_wp2
          go_ret
          exact ⟨by rw [HF.out]; rfl, bel⟩
        · have HF : Hid (Gate.fits n K l = false) := Gate.fits_no (fun q => he q.2.1)
          have e0 : ((K : Int) == n) = false := by simp [he]
          clear he
          go_wp2_with fail
          refine (refCright_any _ _).mono ?_; rintro e w' ⟨rfl, rfl⟩
          rw [hr]
          have := HB.out
          go_wp2
          go_ret
          exact ⟨by rw [HF.out]; rfl, bel⟩
      · have HF : Hid (Gate.fits n K l = false) := Gate.fits_no (fun q => hr (Conf.right_spec.2 q.1))
        have hr := Bool.eq_false_iff.2 hr
        go_wp2_with fail
        refine (refCright_any _ _).mono ?_; rintro e w' ⟨rfl, rfl⟩
        rw [hr]
        have := HB.out
        go_wp2
        go_ret
        exact ⟨by rw [HF.out]; rfl, bel⟩
theorem refWrong_any (n : Int) (f : Nat → Int) (va : Value) (m : Nat) (l : Nat → Int) (w : World) (hm : m ≤ maxLen) (hl : Prs w va m l) :
    Calls Try.prog 44 #[.int .i64 n, .agg #[.int .i64 (f 0), .int .i64 (f 1), .int .i64 (f 2), .int .i64 (f 3), .int .i64 (f 4), .int .i64 (f 5), .int .i64 (f 6), .int .i64 (f 7), .int .i64 (f 8), .int .i64 (f 9), .int .i64 (f 10), .int .i64 (f 11)], va] w fun e w' => e = .returned (.int .i64 (Gate.wrong n f m l)) ∧ Below w.heap.size w w' := by
  have HL := Lib.hid hl
  clear hl
  by_cases h : Vote.ok n f = true
  · have HW : Hid (Gate.wrong n f m l = if Gate.fits n m l = true then 0 else 2) := by
      show Gate.wrong n f m l = _
      unfold Gate.wrong
      rw [if_pos h]
    go_enter Try.func44, Try.ntmps44
    go_wp2_with fail
    refine (refVRight_any n f _).mono ?_; rintro e w1 ⟨rfl, hb⟩; have hz := hb.size; (try simp only [World.size_alloc, World.heap_drewN, World.size_drew, World.size_setCell] at hz)
    rw [h]
    have HB1 := Lib.hid (show Below w.heap.size w w1 from bel)
    clear hb
    go_wp2_with fail
    refine (refGFits_any n va m l _ hm (HL.out.below HB1.out)).mono ?_; rintro e w2 ⟨rfl, hb⟩; have hz := hb.size; (try simp only [World.size_alloc, World.heap_drewN, World.size_drew, World.size_setCell] at hz)
    have HB2 := Lib.hid (show Below w.heap.size w w2 from by have := HB1.out; exact bel)
    clear hb
    cases hq : Gate.fits n m l
    all_goals
      have := HB2.out
      go_wp2
      go_ret
      exact ⟨by rw [HW.out, hq]; rfl, bel⟩
  · have h := Bool.eq_false_iff.2 h
    have HW : Hid (Gate.wrong n f m l = 1) := by
      show Gate.wrong n f m l = 1
      unfold Gate.wrong
      rw [h]
      rfl
    go_enter Try.func44, Try.ntmps44
    go_wp2_with fail
    refine (refVRight_any n f _).mono ?_; rintro e w1 ⟨rfl, hb⟩; have hz := hb.size; (try simp only [World.size_alloc, World.heap_drewN, World.size_drew, World.size_setCell] at hz)
    rw [h]
    go_wp2
    go_ret
    exact ⟨by rw [HW.out]; rfl, bel⟩
end Go.Proofs.Ytkdmmomfolhfbaa
namespace Go.Proofs.Ytkdmmomfolhfbaa
set_option linter.unusedVariables false
set_option linter.unusedSimpArgs false
open Go.ChangeShapes Go.WideShapes Go.RowKit

/-- What is noted of the first 'K' ports. -/
def noteK (f l : Nat → Int) (K j : Nat) : Int := if j < K ∧ l (j * 2) = 2 then 0 else f j
theorem noteK_end (m : Nat) (f l : Nat → Int) (j : Nat) : noteK f l m j = Gate.note m f l j := by
  unfold noteK Gate.note
  by_cases h : j < m ∧ l (j * 2) = 2
  · rw [if_pos h, if_pos ⟨by omega, h.2⟩]
  · rw [if_neg h, if_neg (fun q => h ⟨by omega, q.2⟩)]
theorem noteK_yes {f l : Nat → Int} {K : Nat} (h : l (K * 2) = 2) (j : Nat) : noteK f l (K + 1) j = if j = K then 0 else noteK f l K j := by
  unfold noteK
  by_cases e : j = K
  · subst e; rw [if_pos ⟨by omega, h⟩, if_pos rfl]
  · rw [if_neg e]
    by_cases q : j < K ∧ l (j * 2) = 2
    · rw [if_pos q, if_pos ⟨by omega, q.2⟩]
    · rw [if_neg q, if_neg (fun r => q ⟨by omega, r.2⟩)]
theorem noteK_no {f l : Nat → Int} {K : Nat} (h : ¬ l (K * 2) = 2) : noteK f l (K + 1) = noteK f l K := by
  funext j
  unfold noteK
  by_cases e : j = K
  · subst e; rw [if_neg (fun r => h r.2), if_neg (fun r => h r.2)]
  · by_cases q : j < K ∧ l (j * 2) = 2
    · rw [if_pos q, if_pos ⟨by omega, q.2⟩]
    · rw [if_neg q, if_neg (fun r => q ⟨by omega, r.2⟩)]
/-- Of Note: nothing beside an error. -/
def noted (n : Int) (f : Nat → Int) (m : Nat) (l : Nat → Int) (j : Nat) : Int := if Gate.wrong n f m l = 0 then Gate.note n f l j else 0
theorem noted_yes {n : Int} {f : Nat → Int} {m : Nat} {l : Nat → Int} (h : Gate.wrong n f m l = 0) (j : Nat) : noted n f m l j = Gate.note n f l j := if_pos h
theorem noted_no {n : Int} {f : Nat → Int} {m : Nat} {l : Nat → Int} (h : ¬ Gate.wrong n f m l = 0) (j : Nat) : noted n f m l j = 0 := if_neg h
set_option maxHeartbeats 4000000 in
theorem refGNote_any (n : Int) (f : Nat → Int) (va : Value) (m : Nat) (l : Nat → Int) (w : World) (hm : m ≤ maxLen) (hl : Prs w va m l) :
    Calls Try.prog 23 #[.int .i64 n, .agg #[.int .i64 (f 0), .int .i64 (f 1), .int .i64 (f 2), .int .i64 (f 3), .int .i64 (f 4), .int .i64 (f 5), .int .i64 (f 6), .int .i64 (f 7), .int .i64 (f 8), .int .i64 (f 9), .int .i64 (f 10), .int .i64 (f 11)], va] w fun e w' => e = .returned (.tuple #[.agg #[.int .i64 (noted n f m l 0), .int .i64 (noted n f m l 1), .int .i64 (noted n f m l 2), .int .i64 (noted n f m l 3), .int .i64 (noted n f m l 4), .int .i64 (noted n f m l 5), .int .i64 (noted n f m l 6), .int .i64 (noted n f m l 7), .int .i64 (noted n f m l 8), .int .i64 (noted n f m l 9), .int .i64 (noted n f m l 10), .int .i64 (noted n f m l 11)], .int .i64 (Gate.wrong n f m l)]) ∧ Below w.heap.size w w' := by
  obtain ⟨p1, c1, rfl⟩ := hl.form
  have CW := Lib.hid (fun w hl => refWrong_any n f (.slice p1 m c1) m l w hm hl)
  by_cases h : Gate.wrong n f m l = 0
  · obtain ⟨hok, hfit⟩ := Gate.wrong_of h
    have h38 := hok.1
    have hmn := hfit.2.1
    have HG : Hid (∀ j, noted n f m l j = Gate.note n f l j) := fun j => noted_yes h j
    generalize noted n f m l = g at *
    rw [h] at CW ⊢
    have HL := Lib.hid hl
    subst hmn
    clear hl h hok hfit
    go_enter Try.func23, Try.ntmps23
    go_wp2_with fail
    have HI0 := Lib.hid ((Ints.box w (noteK f l 0) 24).alloc (.cells #[.int .i64 ((fun _ => (0 : Int)) 0), .int .i64 ((fun _ => (0 : Int)) 1), .int .i64 ((fun _ => (0 : Int)) 2), .int .i64 ((fun _ => (0 : Int)) 3), .int .i64 ((fun _ => (0 : Int)) 4), .int .i64 ((fun _ => (0 : Int)) 5), .int .i64 ((fun _ => (0 : Int)) 6), .int .i64 ((fun _ => (0 : Int)) 7), .int .i64 ((fun _ => (0 : Int)) 8), .int .i64 ((fun _ => (0 : Int)) 9), .int .i64 ((fun _ => (0 : Int)) 10), .int .i64 ((fun _ => (0 : Int)) 11)] 24))
    have HZ0 := Lib.hid (Ints.zeros (w.alloc (.cells #[.int .i64 (noteK f l 0 0), .int .i64 (noteK f l 0 1), .int .i64 (noteK f l 0 2), .int .i64 (noteK f l 0 3), .int .i64 (noteK f l 0 4), .int .i64 (noteK f l 0 5), .int .i64 (noteK f l 0 6), .int .i64 (noteK f l 0 7), .int .i64 (noteK f l 0 8), .int .i64 (noteK f l 0 9), .int .i64 (noteK f l 0 10), .int .i64 (noteK f l 0 11)] 24)) 24)
    simp only [show noteK f l 0 = f from funext fun j => if_neg (by omega)] at HI0 HZ0
    refine (CW.out _ (HL.out.below bel)).mono ?_
    rintro e w1 ⟨rfl, hb⟩
    have hz := hb.size
    (try simp only [World.size_alloc, World.heap_drewN, World.size_drew, World.size_setCell] at hz)
    have HB1 := Lib.hid (show Below w.heap.size w w1 from bel)
    have HI1 := Lib.hid (HI0.out.below hb)
    have HZ1 := Lib.hid (HZ0.out.below hb)
    clear hb HI0 HZ0
    go_wp2_with fail
    go_loopw [9] (fun k wr => ∃ K : Nat, K ≤ m ∧ k = .int .i64 K ∧ Ints wr w.heap.size 12 (noteK f l K) ∧ Ints wr (w.heap.size + 1) 12 (fun _ => 0) ∧ Below w.heap.size w wr) (fun k _ => m - (intOf k).toNat)
    case atStart =>
      have := HB1.out
      refine ⟨0, by omega, rfl, ?_, ?_, bel⟩
      · rw [show noteK f l 0 = f from funext fun j => if_neg (by omega)]; exact HI1.out
      · simpa using HZ1.out
    case round =>
      clear HI1 HZ1 HB1
      obtain ⟨K, hK, rfl, hI, hZ, hb⟩ := hrel
      have HB := Lib.hid hb
      have HI := Lib.hid hI
      have HZ := Lib.hid hZ
      by_cases hlt : K < m
      · have h1 : (K : Int) < m := by omega
        have h8 : (K : Int) < 8 := by omega
        have h0 : (0 : Int) ≤ K := by omega
        obtain ⟨b1, o1, rfl, hl1, hc1⟩ := HL.out.some (by omega)
        obtain ⟨c0, c1⟩ := two_cells hc1 hb hlt
        obtain ⟨k0, f0⟩ := hI.2 K (by omega)
        have hz := hI.1
        clear hb hI hZ hc1
        by_cases hk : l (K * 2) = 2
        · have HN := Lib.hid (fun j => noteK_yes (f := f) hk j)
          rw [hk] at c0
          clear hk
          go_wp2
          go_roundw
          case rel =>
            have := HB.out
            exact ⟨K + 1, by omega, by go_num, HI.out.set K 0 (by omega) _ HN.out, HZ.out.other _ _ _ (by omega), bel⟩
          case measure => simp [intOf]; omega
        · have HN := Lib.hid (noteK_no (f := f) hk)
          have e0 : (l (K * 2) == 2) = false := by simp [hk]
          clear hk
          go_wp2
          go_roundw
          case rel =>
            exact ⟨K + 1, by omega, by go_num, by rw [HN.out]; exact HI.out, HZ.out, HB.out⟩
          case measure => simp [intOf]; omega
      · obtain rfl : K = m := by omega
        have HI := Lib.hid (hI.like (fun j hj => (noteK_end K f l j).trans (HG.out j).symm))
        clear hb hI hZ
        have HI_c0 := (HI.out.2 0 (by decide)).1; have HI_c1 := (HI.out.2 1 (by decide)).1; have HI_c2 := (HI.out.2 2 (by decide)).1; have HI_c3 := (HI.out.2 3 (by decide)).1; have HI_c4 := (HI.out.2 4 (by decide)).1; have HI_c5 := (HI.out.2 5 (by decide)).1; have HI_c6 := (HI.out.2 6 (by decide)).1; have HI_c7 := (HI.out.2 7 (by decide)).1; have HI_c8 := (HI.out.2 8 (by decide)).1; have HI_c9 := (HI.out.2 9 (by decide)).1; have HI_c10 := (HI.out.2 10 (by decide)).1; have HI_c11 := (HI.out.2 11 (by decide)).1; have HI_z := HI.out.1
        have HZ_r := HZ.out.row12; have HZ_c0 := (HZ.out.2 0 (by decide)).1; have HZ_f0 := (HZ.out.2 0 (by decide)).2; have HZ_c1 := (HZ.out.2 1 (by decide)).1; have HZ_f1 := (HZ.out.2 1 (by decide)).2; have HZ_c2 := (HZ.out.2 2 (by decide)).1; have HZ_f2 := (HZ.out.2 2 (by decide)).2; have HZ_c3 := (HZ.out.2 3 (by decide)).1; have HZ_f3 := (HZ.out.2 3 (by decide)).2; have HZ_c4 := (HZ.out.2 4 (by decide)).1; have HZ_f4 := (HZ.out.2 4 (by decide)).2; have HZ_c5 := (HZ.out.2 5 (by decide)).1; have HZ_f5 := (HZ.out.2 5 (by decide)).2; have HZ_c6 := (HZ.out.2 6 (by decide)).1; have HZ_f6 := (HZ.out.2 6 (by decide)).2; have HZ_c7 := (HZ.out.2 7 (by decide)).1; have HZ_f7 := (HZ.out.2 7 (by decide)).2; have HZ_c8 := (HZ.out.2 8 (by decide)).1; have HZ_f8 := (HZ.out.2 8 (by decide)).2; have HZ_c9 := (HZ.out.2 9 (by decide)).1; have HZ_f9 := (HZ.out.2 9 (by decide)).2; have HZ_c10 := (HZ.out.2 10 (by decide)).1; have HZ_f10 := (HZ.out.2 10 (by decide)).2; have HZ_c11 := (HZ.out.2 11 (by decide)).1; have HZ_f11 := (HZ.out.2 11 (by decide)).2; have HZ_z := HZ.out.1
        have := HB.out
        go_wp2
        refine bodyPost_ret (ret_cell_tmp Try.results23 (w.heap.size + 1) [.int .i64 ((g) 0), .int .i64 ((g) 1), .int .i64 ((g) 2), .int .i64 ((g) 3), .int .i64 ((g) 4), .int .i64 ((g) 5), .int .i64 ((g) 6), .int .i64 ((g) 7), .int .i64 ((g) 8), .int .i64 ((g) 9), .int .i64 ((g) 10), .int .i64 ((g) 11)] _ rfl rng Try.underlying24 rfl (by kernel_rfl)) rfl ⟨rfl, ?_⟩; exact bel
  · have HX := Lib.hid (fun j => noted_no h j)
    simp only [noted_no h]
    generalize Gate.wrong n f m l = er at *
    have e0 : (er != 0) = true := by simp [h]
    have HL := Lib.hid hl
    clear hl h
    go_enter Try.func23, Try.ntmps23
    go_wp2_with fail
    have HZ0 := Lib.hid (Ints.zeros (w.alloc (.cells #[.int .i64 (f 0), .int .i64 (f 1), .int .i64 (f 2), .int .i64 (f 3), .int .i64 (f 4), .int .i64 (f 5), .int .i64 (f 6), .int .i64 (f 7), .int .i64 (f 8), .int .i64 (f 9), .int .i64 (f 10), .int .i64 (f 11)] 24)) 24)
    refine (CW.out _ (HL.out.below bel)).mono ?_
    rintro e w1 ⟨rfl, hb⟩
    have hz := hb.size
    (try simp only [World.size_alloc, World.heap_drewN, World.size_drew, World.size_setCell] at hz)
    have HB1 := Lib.hid (show Below w.heap.size w w1 from bel)
    have HZ1 := Lib.hid (HZ0.out.below hb)
    rw [World.size_alloc] at HZ1
    clear hb HZ0
    have HZ1_r := HZ1.out.row12; have HZ1_c0 := (HZ1.out.2 0 (by decide)).1; have HZ1_f0 := (HZ1.out.2 0 (by decide)).2; have HZ1_c1 := (HZ1.out.2 1 (by decide)).1; have HZ1_f1 := (HZ1.out.2 1 (by decide)).2; have HZ1_c2 := (HZ1.out.2 2 (by decide)).1; have HZ1_f2 := (HZ1.out.2 2 (by decide)).2; have HZ1_c3 := (HZ1.out.2 3 (by decide)).1; have HZ1_f3 := (HZ1.out.2 3 (by decide)).2; have HZ1_c4 := (HZ1.out.2 4 (by decide)).1; have HZ1_f4 := (HZ1.out.2 4 (by decide)).2; have HZ1_c5 := (HZ1.out.2 5 (by decide)).1; have HZ1_f5 := (HZ1.out.2 5 (by decide)).2; have HZ1_c6 := (HZ1.out.2 6 (by decide)).1; have HZ1_f6 := (HZ1.out.2 6 (by decide)).2; have HZ1_c7 := (HZ1.out.2 7 (by decide)).1; have HZ1_f7 := (HZ1.out.2 7 (by decide)).2; have HZ1_c8 := (HZ1.out.2 8 (by decide)).1; have HZ1_f8 := (HZ1.out.2 8 (by decide)).2; have HZ1_c9 := (HZ1.out.2 9 (by decide)).1; have HZ1_f9 := (HZ1.out.2 9 (by decide)).2; have HZ1_c10 := (HZ1.out.2 10 (by decide)).1; have HZ1_f10 := (HZ1.out.2 10 (by decide)).2; have HZ1_c11 := (HZ1.out.2 11 (by decide)).1; have HZ1_f11 := (HZ1.out.2 11 (by decide)).2; have HZ1_z := HZ1.out.1
    have := HB1.out
    go_wp2
    refine bodyPost_ret (ret_cell_tmp Try.results23 (w.heap.size + 1) [.int .i64 ((fun _ => 0) 0), .int .i64 ((fun _ => 0) 1), .int .i64 ((fun _ => 0) 2), .int .i64 ((fun _ => 0) 3), .int .i64 ((fun _ => 0) 4), .int .i64 ((fun _ => 0) 5), .int .i64 ((fun _ => 0) 6), .int .i64 ((fun _ => 0) 7), .int .i64 ((fun _ => 0) 8), .int .i64 ((fun _ => 0) 9), .int .i64 ((fun _ => 0) 10), .int .i64 ((fun _ => 0) 11)] _ rfl rng Try.underlying24 rfl (by kernel_rfl)) rfl ⟨rfl, ?_⟩; exact bel
end Go.Proofs.Ytkdmmomfolhfbaa
namespace Go.Proofs.Ytkdmmomfolhfbaa
set_option linter.unusedVariables false
set_option linter.unusedSimpArgs false
open Go.ChangeShapes Go.WideShapes Go.RowKit

theorem settle_keep {n : Int} {f : Nat → Int} (h : Vote.Ok n f) (h0 : 0 < f 10) (hv : ¬ 2 ≤ Vote.votes n f (f 11)) : Gate.settle n f = f := by
  funext j; unfold Gate.settle; rw [if_pos (Vote.ok_iff.2 h), if_pos h0, if_neg hv]
theorem settle_hold {n : Int} {f : Nat → Int} (h : Vote.Ok n f) (h0 : 0 < f 10) (hv : 2 ≤ Vote.votes n f (f 11)) (j : Nat) : Gate.settle n f j = if j = 10 then 2 * n else f j := by
  unfold Gate.settle; rw [if_pos (Vote.ok_iff.2 h), if_pos h0, if_pos hv]
theorem settle_none {n : Int} {f : Nat → Int} (h : Vote.Ok n f) (h0 : ¬ 0 < f 10) (hv : ¬ 2 ≤ Vote.bestVotes n f) : Gate.settle n f = f := by
  funext j; unfold Gate.settle; rw [if_pos (Vote.ok_iff.2 h), if_neg h0, if_neg hv]
theorem settle_take {n : Int} {f : Nat → Int} (h : Vote.Ok n f) (h0 : ¬ 0 < f 10) (hv : 2 ≤ Vote.bestVotes n f) (j : Nat) : Gate.settle n f j = if j = 10 then 2 * n else if j = 11 then (Vote.best n f : Nat) else f j := by
  unfold Gate.settle; rw [if_pos (Vote.ok_iff.2 h), if_neg h0, if_pos hv]
theorem settle_bad {n : Int} {f : Nat → Int} (h : Vote.ok n f = false) (j : Nat) : Gate.settle n f j = 0 := by unfold Gate.settle; rw [h]; rfl
/-- The slot with most votes is taken. -/
def takeF' (n : Int) (f : Nat → Int) (j : Nat) : Int := if j = 11 then (Vote.best n f : Nat) else f j
theorem take_ok {n : Int} {f : Nat → Int} (h : Vote.Ok n f) : Vote.Ok n (takeF' n f) := by
  have hb := Gate.best_lt h
  refine Gate.ok_set h (fun j hj => if_neg (by omega)) ?_ ?_
  · show 0 ≤ (if 10 = 11 then _ else _) ∧ (if 10 = 11 then _ else _) ≤ _
    rw [if_neg (by omega)]; exact h.2.2.2.2.1
  · show 0 ≤ (if 11 = 11 then _ else _) ∧ (if 11 = 11 then _ else _) ≤ _
    rw [if_pos rfl]; omega
theorem take_votes {n : Int} {f : Nat → Int} (h : Vote.Ok n f) : Vote.votes n (takeF' n f) (Vote.best n f : Nat) = Vote.bestVotes n f := by
  rw [Gate.votes_like (take_ok h) h (fun j hj => if_neg (by omega)), Gate.votes_best h]
set_option maxHeartbeats 4000000 in
theorem refGSettle_any (n : Int) (f : Nat → Int) (w : World) :
    Calls Try.prog 24 #[.int .i64 n, .agg #[.int .i64 (f 0), .int .i64 (f 1), .int .i64 (f 2), .int .i64 (f 3), .int .i64 (f 4), .int .i64 (f 5), .int .i64 (f 6), .int .i64 (f 7), .int .i64 (f 8), .int .i64 (f 9), .int .i64 (f 10), .int .i64 (f 11)]] w fun e w' => e = .returned (.tuple #[.agg #[.int .i64 (Gate.settle n f 0), .int .i64 (Gate.settle n f 1), .int .i64 (Gate.settle n f 2), .int .i64 (Gate.settle n f 3), .int .i64 (Gate.settle n f 4), .int .i64 (Gate.settle n f 5), .int .i64 (Gate.settle n f 6), .int .i64 (Gate.settle n f 7), .int .i64 (Gate.settle n f 8), .int .i64 (Gate.settle n f 9), .int .i64 (Gate.settle n f 10), .int .i64 (Gate.settle n f 11)], .int .i64 (Vote.tickErr n f)]) ∧ Below w.heap.size w w' := by
  by_cases h : Vote.ok n f = true
  · have hok := Vote.ok_iff.1 h
    have h38 := hok.1
    rw [tickErr_yes h]
    have ht : Conf.tm n 2 = 2 * n := Conf.tm_yes (Conf.right_spec.2 h38)
    have CB := Lib.hid (fun w => refBlock_val n _ ht w)
    have HR := Lib.hid h
    have h10 := hok.2.2.2.2.1
    have HX0 := Lib.hid ((Ints.box w f 24).alloc (.cells #[.int .i64 ((fun _ => (0 : Int)) 0), .int .i64 ((fun _ => (0 : Int)) 1), .int .i64 ((fun _ => (0 : Int)) 2), .int .i64 ((fun _ => (0 : Int)) 3), .int .i64 ((fun _ => (0 : Int)) 4), .int .i64 ((fun _ => (0 : Int)) 5), .int .i64 ((fun _ => (0 : Int)) 6), .int .i64 ((fun _ => (0 : Int)) 7), .int .i64 ((fun _ => (0 : Int)) 8), .int .i64 ((fun _ => (0 : Int)) 9), .int .i64 ((fun _ => (0 : Int)) 10), .int .i64 ((fun _ => (0 : Int)) 11)] 24))
    have HZ0 := Lib.hid (Ints.zeros (w.alloc (.cells #[.int .i64 (f 0), .int .i64 (f 1), .int .i64 (f 2), .int .i64 (f 3), .int .i64 (f 4), .int .i64 (f 5), .int .i64 (f 6), .int .i64 (f 7), .int .i64 (f 8), .int .i64 (f 9), .int .i64 (f 10), .int .i64 (f 11)] 24)) 24)
    by_cases h0 : 0 < f 10
    · have CV := Lib.hid (fun w => refVVotes_any n f (f 11) w)
      by_cases hv : 2 ≤ Vote.votes n f (f 11)
      · have HG := Lib.hid (fun j => settle_hold hok h0 hv j)
        generalize Gate.settle n f = g at *
        generalize Vote.votes n f (f 11) = x at *
        have hx : (2 : Int) ≤ x := by omega
        have e0 : (f 10 == 0) = false := by simp; omega
        clear h hok ht hv h10 h0
        go_enter Try.func24, Try.ntmps24
        go_wp2_with fail
        refine (refVRight_any n f _).mono ?_; rintro e w1 ⟨rfl, hb⟩; have hz := hb.size; (try simp only [World.size_alloc, World.heap_drewN, World.size_drew, World.size_setCell] at hz)
        rw [HR.out]
        have HB1 := Lib.hid (show Below w.heap.size w w1 from bel)
        have HX1 := Lib.hid (HX0.out.below hb)
        have HZ1 := Lib.hid (HZ0.out.below hb)
        rw [World.size_alloc] at HZ1
        clear hb HX0 HZ0
        have HX1_c0 := (HX1.out.2 0 (by decide)).1; have HX1_c1 := (HX1.out.2 1 (by decide)).1; have HX1_c2 := (HX1.out.2 2 (by decide)).1; have HX1_c3 := (HX1.out.2 3 (by decide)).1; have HX1_c4 := (HX1.out.2 4 (by decide)).1; have HX1_c5 := (HX1.out.2 5 (by decide)).1; have HX1_c6 := (HX1.out.2 6 (by decide)).1; have HX1_c7 := (HX1.out.2 7 (by decide)).1; have HX1_c8 := (HX1.out.2 8 (by decide)).1; have HX1_c9 := (HX1.out.2 9 (by decide)).1; have HX1_c10 := (HX1.out.2 10 (by decide)).1; have HX1_c11 := (HX1.out.2 11 (by decide)).1; have HX1_z := HX1.out.1
        go_wp2_with fail
        refine (CV.out _).mono ?_; rintro e w2 ⟨rfl, hb⟩; have hz := hb.size; (try simp only [World.size_alloc, World.heap_drewN, World.size_drew, World.size_setCell] at hz)
        have HB2 := Lib.hid (show Below w.heap.size w w2 from by have := HB1.out; exact bel)
        have HX2 := Lib.hid (HX1.out.below hb)
        have HZ2 := Lib.hid (HZ1.out.below hb)
        clear hb HX1 HZ1 HB1
        clear HX1_c0 HX1_c1 HX1_c2 HX1_c3 HX1_c4 HX1_c5 HX1_c6 HX1_c7 HX1_c8 HX1_c9 HX1_c10 HX1_c11 HX1_z
        obtain ⟨c10, f10⟩ := HX2.out.2 10 (by decide)
        have hz2 := HX2.out.1
        go_wp2_with fail
        refine (CB.out _).mono ?_; rintro e w' ⟨rfl, rfl⟩
        go_upto_region 10 with fail
        generalize hw3 : World.setCell _ _ _ = w3
        have HX3 := Lib.hid (show Ints w3 w.heap.size 12 g from by rw [← hw3]; exact HX2.out.set 10 (2 * n) (by omega) _ HG.out)
        have HZ3 := Lib.hid (show Ints w3 (w.heap.size + 1) 12 (fun _ => 0) from by rw [← hw3]; exact HZ2.out.other _ _ _ (by omega))
        have HB3 := Lib.hid (show Below w.heap.size w w3 from by have := HB2.out; rw [← hw3]; exact bel)
        clear hw3 HX2 HZ2 HB2 c10 f10 hz2
        have HX3_c0 := (HX3.out.2 0 (by decide)).1; have HX3_c1 := (HX3.out.2 1 (by decide)).1; have HX3_c2 := (HX3.out.2 2 (by decide)).1; have HX3_c3 := (HX3.out.2 3 (by decide)).1; have HX3_c4 := (HX3.out.2 4 (by decide)).1; have HX3_c5 := (HX3.out.2 5 (by decide)).1; have HX3_c6 := (HX3.out.2 6 (by decide)).1; have HX3_c7 := (HX3.out.2 7 (by decide)).1; have HX3_c8 := (HX3.out.2 8 (by decide)).1; have HX3_c9 := (HX3.out.2 9 (by decide)).1; have HX3_c10 := (HX3.out.2 10 (by decide)).1; have HX3_c11 := (HX3.out.2 11 (by decide)).1; have HX3_z := HX3.out.1
        have HZ3_r := HZ3.out.row12; have HZ3_c0 := (HZ3.out.2 0 (by decide)).1; have HZ3_f0 := (HZ3.out.2 0 (by decide)).2; have HZ3_c1 := (HZ3.out.2 1 (by decide)).1; have HZ3_f1 := (HZ3.out.2 1 (by decide)).2; have HZ3_c2 := (HZ3.out.2 2 (by decide)).1; have HZ3_f2 := (HZ3.out.2 2 (by decide)).2; have HZ3_c3 := (HZ3.out.2 3 (by decide)).1; have HZ3_f3 := (HZ3.out.2 3 (by decide)).2; have HZ3_c4 := (HZ3.out.2 4 (by decide)).1; have HZ3_f4 := (HZ3.out.2 4 (by decide)).2; have HZ3_c5 := (HZ3.out.2 5 (by decide)).1; have HZ3_f5 := (HZ3.out.2 5 (by decide)).2; have HZ3_c6 := (HZ3.out.2 6 (by decide)).1; have HZ3_f6 := (HZ3.out.2 6 (by decide)).2; have HZ3_c7 := (HZ3.out.2 7 (by decide)).1; have HZ3_f7 := (HZ3.out.2 7 (by decide)).2; have HZ3_c8 := (HZ3.out.2 8 (by decide)).1; have HZ3_f8 := (HZ3.out.2 8 (by decide)).2; have HZ3_c9 := (HZ3.out.2 9 (by decide)).1; have HZ3_f9 := (HZ3.out.2 9 (by decide)).2; have HZ3_c10 := (HZ3.out.2 10 (by decide)).1; have HZ3_f10 := (HZ3.out.2 10 (by decide)).2; have HZ3_c11 := (HZ3.out.2 11 (by decide)).1; have HZ3_f11 := (HZ3.out.2 11 (by decide)).2; have HZ3_z := HZ3.out.1
        have := HB3.out
        go_wp2
        refine bodyPost_ret (ret_cell_tmp Try.results24 (w.heap.size + 1) [.int .i64 ((g) 0), .int .i64 ((g) 1), .int .i64 ((g) 2), .int .i64 ((g) 3), .int .i64 ((g) 4), .int .i64 ((g) 5), .int .i64 ((g) 6), .int .i64 ((g) 7), .int .i64 ((g) 8), .int .i64 ((g) 9), .int .i64 ((g) 10), .int .i64 ((g) 11)] _ rfl rng Try.underlying24 rfl (by kernel_rfl)) rfl ⟨rfl, ?_⟩; exact bel
      · rw [settle_keep hok h0 hv]
        generalize Vote.votes n f (f 11) = x at *
        have hx : ¬ (2 : Int) ≤ x := by omega
        have e0 : (f 10 == 0) = false := by simp; omega
        clear h hok ht hv h10 h0
        go_enter Try.func24, Try.ntmps24
        go_wp2_with fail
        refine (refVRight_any n f _).mono ?_; rintro e w1 ⟨rfl, hb⟩; have hz := hb.size; (try simp only [World.size_alloc, World.heap_drewN, World.size_drew, World.size_setCell] at hz)
        rw [HR.out]
        have HB1 := Lib.hid (show Below w.heap.size w w1 from bel)
        have HX1 := Lib.hid (HX0.out.below hb)
        have HZ1 := Lib.hid (HZ0.out.below hb)
        rw [World.size_alloc] at HZ1
        clear hb HX0 HZ0
        have HX1_c0 := (HX1.out.2 0 (by decide)).1; have HX1_c1 := (HX1.out.2 1 (by decide)).1; have HX1_c2 := (HX1.out.2 2 (by decide)).1; have HX1_c3 := (HX1.out.2 3 (by decide)).1; have HX1_c4 := (HX1.out.2 4 (by decide)).1; have HX1_c5 := (HX1.out.2 5 (by decide)).1; have HX1_c6 := (HX1.out.2 6 (by decide)).1; have HX1_c7 := (HX1.out.2 7 (by decide)).1; have HX1_c8 := (HX1.out.2 8 (by decide)).1; have HX1_c9 := (HX1.out.2 9 (by decide)).1; have HX1_c10 := (HX1.out.2 10 (by decide)).1; have HX1_c11 := (HX1.out.2 11 (by decide)).1; have HX1_z := HX1.out.1
        go_wp2_with fail
        refine (CV.out _).mono ?_; rintro e w2 ⟨rfl, hb⟩; have hz := hb.size; (try simp only [World.size_alloc, World.heap_drewN, World.size_drew, World.size_setCell] at hz)
        have HB2 := Lib.hid (show Below w.heap.size w w2 from by have := HB1.out; exact bel)
        have HX2 := Lib.hid (HX1.out.below hb)
        have HZ2 := Lib.hid (HZ1.out.below hb)
        clear hb HX1 HZ1 HB1
        clear HX1_c0 HX1_c1 HX1_c2 HX1_c3 HX1_c4 HX1_c5 HX1_c6 HX1_c7 HX1_c8 HX1_c9 HX1_c10 HX1_c11 HX1_z
        have HX2_c0 := (HX2.out.2 0 (by decide)).1; have HX2_c1 := (HX2.out.2 1 (by decide)).1; have HX2_c2 := (HX2.out.2 2 (by decide)).1; have HX2_c3 := (HX2.out.2 3 (by decide)).1; have HX2_c4 := (HX2.out.2 4 (by decide)).1; have HX2_c5 := (HX2.out.2 5 (by decide)).1; have HX2_c6 := (HX2.out.2 6 (by decide)).1; have HX2_c7 := (HX2.out.2 7 (by decide)).1; have HX2_c8 := (HX2.out.2 8 (by decide)).1; have HX2_c9 := (HX2.out.2 9 (by decide)).1; have HX2_c10 := (HX2.out.2 10 (by decide)).1; have HX2_c11 := (HX2.out.2 11 (by decide)).1; have HX2_z := HX2.out.1
        have HZ2_r := HZ2.out.row12; have HZ2_c0 := (HZ2.out.2 0 (by decide)).1; have HZ2_f0 := (HZ2.out.2 0 (by decide)).2; have HZ2_c1 := (HZ2.out.2 1 (by decide)).1; have HZ2_f1 := (HZ2.out.2 1 (by decide)).2; have HZ2_c2 := (HZ2.out.2 2 (by decide)).1; have HZ2_f2 := (HZ2.out.2 2 (by decide)).2; have HZ2_c3 := (HZ2.out.2 3 (by decide)).1; have HZ2_f3 := (HZ2.out.2 3 (by decide)).2; have HZ2_c4 := (HZ2.out.2 4 (by decide)).1; have HZ2_f4 := (HZ2.out.2 4 (by decide)).2; have HZ2_c5 := (HZ2.out.2 5 (by decide)).1; have HZ2_f5 := (HZ2.out.2 5 (by decide)).2; have HZ2_c6 := (HZ2.out.2 6 (by decide)).1; have HZ2_f6 := (HZ2.out.2 6 (by decide)).2; have HZ2_c7 := (HZ2.out.2 7 (by decide)).1; have HZ2_f7 := (HZ2.out.2 7 (by decide)).2; have HZ2_c8 := (HZ2.out.2 8 (by decide)).1; have HZ2_f8 := (HZ2.out.2 8 (by decide)).2; have HZ2_c9 := (HZ2.out.2 9 (by decide)).1; have HZ2_f9 := (HZ2.out.2 9 (by decide)).2; have HZ2_c10 := (HZ2.out.2 10 (by decide)).1; have HZ2_f10 := (HZ2.out.2 10 (by decide)).2; have HZ2_c11 := (HZ2.out.2 11 (by decide)).1; have HZ2_f11 := (HZ2.out.2 11 (by decide)).2; have HZ2_z := HZ2.out.1
        have := HB2.out
        go_wp2
        refine bodyPost_ret (ret_cell_tmp Try.results24 (w.heap.size + 1) [.int .i64 ((f) 0), .int .i64 ((f) 1), .int .i64 ((f) 2), .int .i64 ((f) 3), .int .i64 ((f) 4), .int .i64 ((f) 5), .int .i64 ((f) 6), .int .i64 ((f) 7), .int .i64 ((f) 8), .int .i64 ((f) 9), .int .i64 ((f) 10), .int .i64 ((f) 11)] _ rfl rng Try.underlying24 rfl (by kernel_rfl)) rfl ⟨rfl, ?_⟩; exact bel
    · have e0 : f 10 = 0 := by omega
      have CB2 := Lib.hid (fun w => refVBest_any n f w)
      have CV := Lib.hid (fun w => refVVotes_any n (takeF' n f) (Vote.best n f : Nat) w)
      rw [take_votes hok] at CV
      have HE := Lib.hid e0
      by_cases hv : 2 ≤ Vote.bestVotes n f
      · have HG := Lib.hid (fun j => settle_take hok h0 hv j)
        have HT := Lib.hid (show ∀ j, takeF' n f j = if j = 11 then ((Vote.best n f : Nat) : Int) else f j from fun j => rfl)
        generalize Gate.settle n f = g at *
        generalize Vote.bestVotes n f = x at *
        generalize takeF' n f = q at *
        generalize Vote.best n f = be at *
        have hx : ¬ (x : Int) < 2 := by omega
        have hx2 : (2 : Int) ≤ x := by omega
        clear h hok ht hv h10 h0 e0
        go_enter Try.func24, Try.ntmps24
        go_wp2_with fail
        refine (refVRight_any n f _).mono ?_; rintro e w1 ⟨rfl, hb⟩; have hz := hb.size; (try simp only [World.size_alloc, World.heap_drewN, World.size_drew, World.size_setCell] at hz)
        rw [HR.out]
        have HB1 := Lib.hid (show Below w.heap.size w w1 from bel)
        have HX1 := Lib.hid (HX0.out.below hb)
        have HZ1 := Lib.hid (HZ0.out.below hb)
        rw [World.size_alloc] at HZ1
        clear hb HX0 HZ0
        have c10 := (HX1.out.2 10 (by decide)).1
        rw [HE.out] at c10
        go_upto_region 4 with fail
        clear c10
        have HX1_c0 := (HX1.out.2 0 (by decide)).1; have HX1_c1 := (HX1.out.2 1 (by decide)).1; have HX1_c2 := (HX1.out.2 2 (by decide)).1; have HX1_c3 := (HX1.out.2 3 (by decide)).1; have HX1_c4 := (HX1.out.2 4 (by decide)).1; have HX1_c5 := (HX1.out.2 5 (by decide)).1; have HX1_c6 := (HX1.out.2 6 (by decide)).1; have HX1_c7 := (HX1.out.2 7 (by decide)).1; have HX1_c8 := (HX1.out.2 8 (by decide)).1; have HX1_c9 := (HX1.out.2 9 (by decide)).1; have HX1_c10 := (HX1.out.2 10 (by decide)).1; have HX1_c11 := (HX1.out.2 11 (by decide)).1; have HX1_z := HX1.out.1
        go_wp2_with fail
        refine (CB2.out _).mono ?_; rintro e w2 ⟨rfl, hb⟩; have hz := hb.size; (try simp only [World.size_alloc, World.heap_drewN, World.size_drew, World.size_setCell] at hz)
        have HB2 := Lib.hid (show Below w.heap.size w w2 from by have := HB1.out; exact bel)
        have HX2 := Lib.hid (HX1.out.below hb)
        have HZ2 := Lib.hid (HZ1.out.below hb)
        clear hb HX1 HZ1 HB1
        clear HX1_c0 HX1_c1 HX1_c2 HX1_c3 HX1_c4 HX1_c5 HX1_c6 HX1_c7 HX1_c8 HX1_c9 HX1_c10 HX1_c11 HX1_z
        obtain ⟨c11, f11⟩ := HX2.out.2 11 (by decide)
        have hz2 := HX2.out.1
        go_upto_region 8 with fail
        generalize hw3 : World.setCell _ _ _ = w3
        have HX3 := Lib.hid (show Ints w3 w.heap.size 12 q from by rw [← hw3]; exact HX2.out.set 11 be (by omega) _ HT.out)
        have HZ3 := Lib.hid (show Ints w3 (w.heap.size + 1) 12 (fun _ => 0) from by rw [← hw3]; exact HZ2.out.other _ _ _ (by omega))
        have HB3 := Lib.hid (show Below w.heap.size w w3 from by have := HB2.out; rw [← hw3]; exact bel)
        have hq11 : Hid (q 11 = be) := HT.out 11
        clear hw3 HX2 HZ2 HB2 c11 f11 hz2
        have HX3_c0 := (HX3.out.2 0 (by decide)).1; have HX3_c1 := (HX3.out.2 1 (by decide)).1; have HX3_c2 := (HX3.out.2 2 (by decide)).1; have HX3_c3 := (HX3.out.2 3 (by decide)).1; have HX3_c4 := (HX3.out.2 4 (by decide)).1; have HX3_c5 := (HX3.out.2 5 (by decide)).1; have HX3_c6 := (HX3.out.2 6 (by decide)).1; have HX3_c7 := (HX3.out.2 7 (by decide)).1; have HX3_c8 := (HX3.out.2 8 (by decide)).1; have HX3_c9 := (HX3.out.2 9 (by decide)).1; have HX3_c10 := (HX3.out.2 10 (by decide)).1; have HX3_c11 := (HX3.out.2 11 (by decide)).1; have HX3_z := HX3.out.1
        go_wp2_with fail
        rw [hq11.out]
        simp only [hq11.out] at CV
        refine (CV.out _).mono ?_; rintro e w4 ⟨rfl, hb⟩; have hz := hb.size; (try simp only [World.size_alloc, World.heap_drewN, World.size_drew, World.size_setCell] at hz)
        have HB4 := Lib.hid (show Below w.heap.size w w4 from by have := HB3.out; exact bel)
        have HX4 := Lib.hid (HX3.out.below hb)
        have HZ4 := Lib.hid (HZ3.out.below hb)
        clear hb HX3 HZ3 HB3
        clear HX3_c0 HX3_c1 HX3_c2 HX3_c3 HX3_c4 HX3_c5 HX3_c6 HX3_c7 HX3_c8 HX3_c9 HX3_c10 HX3_c11 HX3_z
        obtain ⟨c10, f10⟩ := HX4.out.2 10 (by decide)
        have hz4 := HX4.out.1
        go_wp2_with fail
        refine (CB.out _).mono ?_; rintro e w' ⟨rfl, rfl⟩
        go_upto_region 10 with fail
        generalize hw5 : World.setCell _ _ _ = w5
        have HX5 := Lib.hid (show Ints w5 w.heap.size 12 g from by
          rw [← hw5]
          refine HX4.out.set 10 (2 * n) (by omega) _ (fun j => ?_)
          rw [HG.out j, HT.out j])
        have HZ5 := Lib.hid (show Ints w5 (w.heap.size + 1) 12 (fun _ => 0) from by rw [← hw5]; exact HZ4.out.other _ _ _ (by omega))
        have HB5 := Lib.hid (show Below w.heap.size w w5 from by have := HB4.out; rw [← hw5]; exact bel)
        clear hw5 HX4 HZ4 HB4 c10 f10 hz4
        have HX5_c0 := (HX5.out.2 0 (by decide)).1; have HX5_c1 := (HX5.out.2 1 (by decide)).1; have HX5_c2 := (HX5.out.2 2 (by decide)).1; have HX5_c3 := (HX5.out.2 3 (by decide)).1; have HX5_c4 := (HX5.out.2 4 (by decide)).1; have HX5_c5 := (HX5.out.2 5 (by decide)).1; have HX5_c6 := (HX5.out.2 6 (by decide)).1; have HX5_c7 := (HX5.out.2 7 (by decide)).1; have HX5_c8 := (HX5.out.2 8 (by decide)).1; have HX5_c9 := (HX5.out.2 9 (by decide)).1; have HX5_c10 := (HX5.out.2 10 (by decide)).1; have HX5_c11 := (HX5.out.2 11 (by decide)).1; have HX5_z := HX5.out.1
        have HZ5_r := HZ5.out.row12; have HZ5_c0 := (HZ5.out.2 0 (by decide)).1; have HZ5_f0 := (HZ5.out.2 0 (by decide)).2; have HZ5_c1 := (HZ5.out.2 1 (by decide)).1; have HZ5_f1 := (HZ5.out.2 1 (by decide)).2; have HZ5_c2 := (HZ5.out.2 2 (by decide)).1; have HZ5_f2 := (HZ5.out.2 2 (by decide)).2; have HZ5_c3 := (HZ5.out.2 3 (by decide)).1; have HZ5_f3 := (HZ5.out.2 3 (by decide)).2; have HZ5_c4 := (HZ5.out.2 4 (by decide)).1; have HZ5_f4 := (HZ5.out.2 4 (by decide)).2; have HZ5_c5 := (HZ5.out.2 5 (by decide)).1; have HZ5_f5 := (HZ5.out.2 5 (by decide)).2; have HZ5_c6 := (HZ5.out.2 6 (by decide)).1; have HZ5_f6 := (HZ5.out.2 6 (by decide)).2; have HZ5_c7 := (HZ5.out.2 7 (by decide)).1; have HZ5_f7 := (HZ5.out.2 7 (by decide)).2; have HZ5_c8 := (HZ5.out.2 8 (by decide)).1; have HZ5_f8 := (HZ5.out.2 8 (by decide)).2; have HZ5_c9 := (HZ5.out.2 9 (by decide)).1; have HZ5_f9 := (HZ5.out.2 9 (by decide)).2; have HZ5_c10 := (HZ5.out.2 10 (by decide)).1; have HZ5_f10 := (HZ5.out.2 10 (by decide)).2; have HZ5_c11 := (HZ5.out.2 11 (by decide)).1; have HZ5_f11 := (HZ5.out.2 11 (by decide)).2; have HZ5_z := HZ5.out.1
        have := HB5.out
        go_wp2
        refine bodyPost_ret (ret_cell_tmp Try.results24 (w.heap.size + 1) [.int .i64 ((g) 0), .int .i64 ((g) 1), .int .i64 ((g) 2), .int .i64 ((g) 3), .int .i64 ((g) 4), .int .i64 ((g) 5), .int .i64 ((g) 6), .int .i64 ((g) 7), .int .i64 ((g) 8), .int .i64 ((g) 9), .int .i64 ((g) 10), .int .i64 ((g) 11)] _ rfl rng Try.underlying24 rfl (by kernel_rfl)) rfl ⟨rfl, ?_⟩; exact bel
      · rw [settle_none hok h0 hv]
        generalize Vote.bestVotes n f = x at *
        generalize Vote.best n f = be at *
        have hx : (x : Int) < 2 := by omega
        clear h hok ht hv h10 h0 e0 CV
        go_enter Try.func24, Try.ntmps24
        go_wp2_with fail
        refine (refVRight_any n f _).mono ?_; rintro e w1 ⟨rfl, hb⟩; have hz := hb.size; (try simp only [World.size_alloc, World.heap_drewN, World.size_drew, World.size_setCell] at hz)
        rw [HR.out]
        have HB1 := Lib.hid (show Below w.heap.size w w1 from bel)
        have HX1 := Lib.hid (HX0.out.below hb)
        have HZ1 := Lib.hid (HZ0.out.below hb)
        rw [World.size_alloc] at HZ1
        clear hb HX0 HZ0
        have c10 := (HX1.out.2 10 (by decide)).1
        rw [HE.out] at c10
        go_upto_region 4 with fail
        clear c10
        have HX1_c0 := (HX1.out.2 0 (by decide)).1; have HX1_c1 := (HX1.out.2 1 (by decide)).1; have HX1_c2 := (HX1.out.2 2 (by decide)).1; have HX1_c3 := (HX1.out.2 3 (by decide)).1; have HX1_c4 := (HX1.out.2 4 (by decide)).1; have HX1_c5 := (HX1.out.2 5 (by decide)).1; have HX1_c6 := (HX1.out.2 6 (by decide)).1; have HX1_c7 := (HX1.out.2 7 (by decide)).1; have HX1_c8 := (HX1.out.2 8 (by decide)).1; have HX1_c9 := (HX1.out.2 9 (by decide)).1; have HX1_c10 := (HX1.out.2 10 (by decide)).1; have HX1_c11 := (HX1.out.2 11 (by decide)).1; have HX1_z := HX1.out.1
        go_wp2_with fail
        refine (CB2.out _).mono ?_; rintro e w2 ⟨rfl, hb⟩; have hz := hb.size; (try simp only [World.size_alloc, World.heap_drewN, World.size_drew, World.size_setCell] at hz)
        have HB2 := Lib.hid (show Below w.heap.size w w2 from by have := HB1.out; exact bel)
        have HX2 := Lib.hid (HX1.out.below hb)
        have HZ2 := Lib.hid (HZ1.out.below hb)
        clear hb HX1 HZ1 HB1
        clear HX1_c0 HX1_c1 HX1_c2 HX1_c3 HX1_c4 HX1_c5 HX1_c6 HX1_c7 HX1_c8 HX1_c9 HX1_c10 HX1_c11 HX1_z
        have HX2_c0 := (HX2.out.2 0 (by decide)).1; have HX2_c1 := (HX2.out.2 1 (by decide)).1; have HX2_c2 := (HX2.out.2 2 (by decide)).1; have HX2_c3 := (HX2.out.2 3 (by decide)).1; have HX2_c4 := (HX2.out.2 4 (by decide)).1; have HX2_c5 := (HX2.out.2 5 (by decide)).1; have HX2_c6 := (HX2.out.2 6 (by decide)).1; have HX2_c7 := (HX2.out.2 7 (by decide)).1; have HX2_c8 := (HX2.out.2 8 (by decide)).1; have HX2_c9 := (HX2.out.2 9 (by decide)).1; have HX2_c10 := (HX2.out.2 10 (by decide)).1; have HX2_c11 := (HX2.out.2 11 (by decide)).1; have HX2_z := HX2.out.1
        have HZ2_r := HZ2.out.row12; have HZ2_c0 := (HZ2.out.2 0 (by decide)).1; have HZ2_f0 := (HZ2.out.2 0 (by decide)).2; have HZ2_c1 := (HZ2.out.2 1 (by decide)).1; have HZ2_f1 := (HZ2.out.2 1 (by decide)).2; have HZ2_c2 := (HZ2.out.2 2 (by decide)).1; have HZ2_f2 := (HZ2.out.2 2 (by decide)).2; have HZ2_c3 := (HZ2.out.2 3 (by decide)).1; have HZ2_f3 := (HZ2.out.2 3 (by decide)).2; have HZ2_c4 := (HZ2.out.2 4 (by decide)).1; have HZ2_f4 := (HZ2.out.2 4 (by decide)).2; have HZ2_c5 := (HZ2.out.2 5 (by decide)).1; have HZ2_f5 := (HZ2.out.2 5 (by decide)).2; have HZ2_c6 := (HZ2.out.2 6 (by decide)).1; have HZ2_f6 := (HZ2.out.2 6 (by decide)).2; have HZ2_c7 := (HZ2.out.2 7 (by decide)).1; have HZ2_f7 := (HZ2.out.2 7 (by decide)).2; have HZ2_c8 := (HZ2.out.2 8 (by decide)).1; have HZ2_f8 := (HZ2.out.2 8 (by decide)).2; have HZ2_c9 := (HZ2.out.2 9 (by decide)).1; have HZ2_f9 := (HZ2.out.2 9 (by decide)).2; have HZ2_c10 := (HZ2.out.2 10 (by decide)).1; have HZ2_f10 := (HZ2.out.2 10 (by decide)).2; have HZ2_c11 := (HZ2.out.2 11 (by decide)).1; have HZ2_f11 := (HZ2.out.2 11 (by decide)).2; have HZ2_z := HZ2.out.1
        have := HB2.out
        go_wp2
        refine bodyPost_ret (ret_cell_tmp Try.results24 (w.heap.size + 1) [.int .i64 ((f) 0), .int .i64 ((f) 1), .int .i64 ((f) 2), .int .i64 ((f) 3), .int .i64 ((f) 4), .int .i64 ((f) 5), .int .i64 ((f) 6), .int .i64 ((f) 7), .int .i64 ((f) 8), .int .i64 ((f) 9), .int .i64 ((f) 10), .int .i64 ((f) 11)] _ rfl rng Try.underlying24 rfl (by kernel_rfl)) rfl ⟨rfl, ?_⟩; exact bel
  · have h := Bool.eq_false_iff.2 h
    rw [tickErr_no h]
    simp only [settle_bad h]
    go_enter Try.func24, Try.ntmps24
    go_wp2_with fail
    refine (refVRight_any n f _).mono ?_
    rintro e w1 ⟨rfl, hb⟩
    rw [h]
    have hz := hb.size
    (try simp only [World.size_alloc, World.heap_drewN, World.size_drew, World.size_setCell] at hz)
    have HB1 := Lib.hid (show Below w.heap.size w w1 from bel)
    have HZ := Lib.hid ((Ints.zeros (w.alloc (.cells #[.int .i64 (f 0), .int .i64 (f 1), .int .i64 (f 2), .int .i64 (f 3), .int .i64 (f 4), .int .i64 (f 5), .int .i64 (f 6), .int .i64 (f 7), .int .i64 (f 8), .int .i64 (f 9), .int .i64 (f 10), .int .i64 (f 11)] 24)) 24).below hb)
    rw [World.size_alloc] at HZ
    clear hb
    have HZ_r := HZ.out.row12; have HZ_c0 := (HZ.out.2 0 (by decide)).1; have HZ_f0 := (HZ.out.2 0 (by decide)).2; have HZ_c1 := (HZ.out.2 1 (by decide)).1; have HZ_f1 := (HZ.out.2 1 (by decide)).2; have HZ_c2 := (HZ.out.2 2 (by decide)).1; have HZ_f2 := (HZ.out.2 2 (by decide)).2; have HZ_c3 := (HZ.out.2 3 (by decide)).1; have HZ_f3 := (HZ.out.2 3 (by decide)).2; have HZ_c4 := (HZ.out.2 4 (by decide)).1; have HZ_f4 := (HZ.out.2 4 (by decide)).2; have HZ_c5 := (HZ.out.2 5 (by decide)).1; have HZ_f5 := (HZ.out.2 5 (by decide)).2; have HZ_c6 := (HZ.out.2 6 (by decide)).1; have HZ_f6 := (HZ.out.2 6 (by decide)).2; have HZ_c7 := (HZ.out.2 7 (by decide)).1; have HZ_f7 := (HZ.out.2 7 (by decide)).2; have HZ_c8 := (HZ.out.2 8 (by decide)).1; have HZ_f8 := (HZ.out.2 8 (by decide)).2; have HZ_c9 := (HZ.out.2 9 (by decide)).1; have HZ_f9 := (HZ.out.2 9 (by decide)).2; have HZ_c10 := (HZ.out.2 10 (by decide)).1; have HZ_f10 := (HZ.out.2 10 (by decide)).2; have HZ_c11 := (HZ.out.2 11 (by decide)).1; have HZ_f11 := (HZ.out.2 11 (by decide)).2; have HZ_z := HZ.out.1
    have := HB1.out
    go_wp2
    refine bodyPost_ret (ret_cell_tmp Try.results24 (w.heap.size + 1) [.int .i64 ((fun _ => 0) 0), .int .i64 ((fun _ => 0) 1), .int .i64 ((fun _ => 0) 2), .int .i64 ((fun _ => 0) 3), .int .i64 ((fun _ => 0) 4), .int .i64 ((fun _ => 0) 5), .int .i64 ((fun _ => 0) 6), .int .i64 ((fun _ => 0) 7), .int .i64 ((fun _ => 0) 8), .int .i64 ((fun _ => 0) 9), .int .i64 ((fun _ => 0) 10), .int .i64 ((fun _ => 0) 11)] _ rfl rng Try.underlying24 rfl (by kernel_rfl)) rfl ⟨rfl, ?_⟩; exact bel
end Go.Proofs.Ytkdmmomfolhfbaa
namespace Go.Proofs.Ytkdmmomfolhfbaa
set_option linter.unusedVariables false
set_option linter.unusedSimpArgs false
open Go.ChangeShapes Go.WideShapes Go.RowKit

theorem ret_cell2_tmp {P : Program} {fn : Func} {p q u : Tmp} {ty ty2 : TypeId} (h : fn.results = #[.cell p ty, .cell q ty2, .tmp u]) {tmps : Array Value} {w : World} (b : Nat) (cs : List Value) (d : TypeDesc) (b2 : Nat) (cs2 : List Value) (d2 : TypeDesc)
    (hp : tmps.getD p undef = .pointer (some ⟨b, 0, none⟩)) (hq : tmps.getD q undef = .pointer (some ⟨b2, 0, none⟩)) (hc : w.rangeAt b 0 cs) (hu : P.underlying ty = some d) (hd : d.isRow = true) (hi : (P.info? ty).map (·.size) = some cs.length)
    (hc2 : w.rangeAt b2 0 cs2) (hu2 : P.underlying ty2 = some d2) (hd2 : d2.isRow = true) (hi2 : (P.info? ty2).map (·.size) = some cs2.length) :
    (results fn tmps).run P w = .ok (.tuple #[.agg cs.toArray, .agg cs2.toArray, tmps.getD u undef]) w := by
  have hp' : tmps[p]?.getD undef = .pointer (some ⟨b, 0, none⟩) := by simpa using hp
  have hq' : tmps[q]?.getD undef = .pointer (some ⟨b2, 0, none⟩) := by simpa using hq
  simp only [results, h]
  simp [Sem.run_bind, hp', hq', asAddr, run_loadVar_mid w b 0 ty cs d hc hu hd hi, run_loadVar_mid w b2 0 ty2 cs2 d2 hc2 hu2 hd2 hi2]
theorem Ints.two (w : World) (x y : Int) (t : TypeId) (f : Nat → Int) (h0 : f 0 = x) (h1 : f 1 = y) : Ints (w.alloc (.cells #[.int .i64 x, .int .i64 y] t)) w.heap.size 2 f := by
  refine ⟨by simp, fun j hj => ⟨?_, World.frozen?_alloc_at _ t _ j rfl⟩⟩
  refine range_cell (range_new w #[.int .i64 x, .int .i64 y] t) j ?_
  have h2 : j = 0 ∨ j = 1 := by omega
  rcases h2 with rfl | rfl
  · rw [h0]; rfl
  · rw [h1]; rfl
theorem Ints.row2 {w : World} {b : Nat} {f : Nat → Int} (h : Ints w b 2 f) : w.rangeAt b 0 [.int .i64 (f 0), .int .i64 (f 1)] := by
  intro j v hj
  have hj2 : j < 2 := by
    have := (List.getElem?_eq_some_iff.1 hj).1
    simpa using this
  have e := (h.2 j hj2).1
  rw [Nat.zero_add, e]
  have h2 : j = 0 ∨ j = 1 := by omega
  rcases h2 with rfl | rfl <;> exact hj
theorem first_at {l : Nat → Int} {m K d : Nat} (hd : d ≤ m) (hK : K < m) (hmd : m - d ≤ K) (h1 : l (K * 2) = 1) (hno : ∀ p, p < K → l (p * 2) ≠ 1) : Gate.first l m d = K := by
  induction d with
  | zero => omega
  | succ d ih =>
    unfold Gate.first
    by_cases e : m - (d + 1) = K
    · rw [e, if_pos h1]
    · rw [if_neg (hno _ (by omega))]
      exact ih (by omega) (by omega)
theorem first_none {l : Nat → Int} {m d : Nat} (hd : d ≤ m) (hno : ∀ p, p < m → l (p * 2) ≠ 1) : Gate.first l m d = m := by
  induction d with
  | zero => rfl
  | succ d ih =>
    unfold Gate.first
    rw [if_neg (hno _ (by omega))]
    exact ih (by omega)
/-- Of Relay: nothing beside an error. -/
def relayH (n : Int) (f : Nat → Int) (m : Nat) (l : Nat → Int) (j : Nat) : Int := if Gate.wrong n f m l = 0 then Gate.relay n f l m j else 0
def relayF (n : Int) (f : Nat → Int) (m : Nat) (l : Nat → Int) (i : Nat) : Int := if Gate.wrong n f m l = 0 then Gate.relayed n f l m i else 0
theorem relayH_yes {n : Int} {f : Nat → Int} {m : Nat} {l : Nat → Int} (h : Gate.wrong n f m l = 0) : relayH n f m l = Gate.relay n f l m := funext fun _ => if_pos h
theorem relayF_yes {n : Int} {f : Nat → Int} {m : Nat} {l : Nat → Int} (h : Gate.wrong n f m l = 0) : relayF n f m l = Gate.relayed n f l m := funext fun _ => if_pos h
theorem relayH_no {n : Int} {f : Nat → Int} {m : Nat} {l : Nat → Int} (h : ¬ Gate.wrong n f m l = 0) (j : Nat) : relayH n f m l j = 0 := if_neg h
theorem relayF_no {n : Int} {f : Nat → Int} {m : Nat} {l : Nat → Int} (h : ¬ Gate.wrong n f m l = 0) (j : Nat) : relayF n f m l j = 0 := if_neg h
theorem relay_none {n : Int} {f l : Nat → Int} {m : Nat} (h : Gate.way n f l m = 0) : Gate.relay n f l m = f ∧ Gate.relayed n f l m = fun _ => 0 := by
  constructor
  · funext j; unfold Gate.relay; rw [h]; rfl
  · funext i; unfold Gate.relayed; rw [if_pos h]
theorem relay_info {n : Int} {f l : Nat → Int} {m : Nat} (h : Gate.way n f l m = 1) : (∀ j, Gate.relay n f l m j = if j = 10 then 2 * n else f j) ∧ ∀ i, Gate.relayed n f l m i = l (Gate.port f l m * 2 + i) := by
  constructor
  · intro j; unfold Gate.relay; rw [if_pos h]
  · intro i; unfold Gate.relayed; rw [if_neg (by omega)]
theorem relay_cs {n : Int} {f l : Nat → Int} {m : Nat} (h : Gate.way n f l m = 2) : (∀ j, Gate.relay n f l m j = if j < 8 then Vote.most n j else if j = 8 then (Gate.port f l m : Nat) else if j = 9 then 0 else f j) ∧ ∀ i, Gate.relayed n f l m i = l (Gate.port f l m * 2 + i) := by
  constructor
  · intro j; unfold Gate.relay; rw [if_neg (by omega), if_pos h]
  · intro i; unfold Gate.relayed; rw [if_neg (by omega)]
set_option maxHeartbeats 4000000 in
theorem refGRelay_no (n : Int) (f : Nat → Int) (va : Value) (m : Nat) (l : Nat → Int) (w : World) (hm : m ≤ maxLen) (hl : Prs w va m l) (h : ¬ Gate.wrong n f m l = 0) :
    Calls Try.prog 25 #[.int .i64 n, .agg #[.int .i64 (f 0), .int .i64 (f 1), .int .i64 (f 2), .int .i64 (f 3), .int .i64 (f 4), .int .i64 (f 5), .int .i64 (f 6), .int .i64 (f 7), .int .i64 (f 8), .int .i64 (f 9), .int .i64 (f 10), .int .i64 (f 11)], va] w fun e w' => e = .returned (.tuple #[.agg #[.int .i64 (relayH n f m l 0), .int .i64 (relayH n f m l 1), .int .i64 (relayH n f m l 2), .int .i64 (relayH n f m l 3), .int .i64 (relayH n f m l 4), .int .i64 (relayH n f m l 5), .int .i64 (relayH n f m l 6), .int .i64 (relayH n f m l 7), .int .i64 (relayH n f m l 8), .int .i64 (relayH n f m l 9), .int .i64 (relayH n f m l 10), .int .i64 (relayH n f m l 11)], .agg #[.int .i64 (relayF n f m l 0), .int .i64 (relayF n f m l 1)], .int .i64 (Gate.wrong n f m l)]) ∧ Below w.heap.size w w' := by
  obtain ⟨p1, c1, rfl⟩ := hl.form
  have CW := Lib.hid (fun w hl => refWrong_any n f (.slice p1 m c1) m l w hm hl)
  simp only [relayH_no h, relayF_no h]
  generalize Gate.wrong n f m l = er at *
  have e0 : (er != 0) = true := by simp [h]
  have HL := Lib.hid hl
  clear hl h
  go_enter Try.func25, Try.ntmps25
  go_wp2_with fail
  have HZ0 := Lib.hid ((Ints.zeros (w.alloc (.cells #[.int .i64 (f 0), .int .i64 (f 1), .int .i64 (f 2), .int .i64 (f 3), .int .i64 (f 4), .int .i64 (f 5), .int .i64 (f 6), .int .i64 (f 7), .int .i64 (f 8), .int .i64 (f 9), .int .i64 (f 10), .int .i64 (f 11)] 24)) 24).alloc (.cells #[.int .i64 0, .int .i64 0] 33))
  have HF0 := Lib.hid (Ints.two ((w.alloc (.cells #[.int .i64 (f 0), .int .i64 (f 1), .int .i64 (f 2), .int .i64 (f 3), .int .i64 (f 4), .int .i64 (f 5), .int .i64 (f 6), .int .i64 (f 7), .int .i64 (f 8), .int .i64 (f 9), .int .i64 (f 10), .int .i64 (f 11)] 24)).alloc (.cells #[.int .i64 ((fun _ => (0 : Int)) 0), .int .i64 ((fun _ => (0 : Int)) 1), .int .i64 ((fun _ => (0 : Int)) 2), .int .i64 ((fun _ => (0 : Int)) 3), .int .i64 ((fun _ => (0 : Int)) 4), .int .i64 ((fun _ => (0 : Int)) 5), .int .i64 ((fun _ => (0 : Int)) 6), .int .i64 ((fun _ => (0 : Int)) 7), .int .i64 ((fun _ => (0 : Int)) 8), .int .i64 ((fun _ => (0 : Int)) 9), .int .i64 ((fun _ => (0 : Int)) 10), .int .i64 ((fun _ => (0 : Int)) 11)] 24)) 0 0 33 (fun _ => 0) rfl rfl)
  refine (CW.out _ (HL.out.below bel)).mono ?_
  rintro e w1 ⟨rfl, hb⟩
  have hz := hb.size
  (try simp only [World.size_alloc, World.heap_drewN, World.size_drew, World.size_setCell] at hz)
  have HB1 := Lib.hid (show Below w.heap.size w w1 from bel)
  have HZ1 := Lib.hid (HZ0.out.below hb)
  have HF1 := Lib.hid (HF0.out.below hb)
  simp only [World.size_alloc] at HZ1 HF1
  clear hb HZ0 HF0
  have HZ1_r := HZ1.out.row12; have HZ1_c0 := (HZ1.out.2 0 (by decide)).1; have HZ1_f0 := (HZ1.out.2 0 (by decide)).2; have HZ1_c1 := (HZ1.out.2 1 (by decide)).1; have HZ1_f1 := (HZ1.out.2 1 (by decide)).2; have HZ1_c2 := (HZ1.out.2 2 (by decide)).1; have HZ1_f2 := (HZ1.out.2 2 (by decide)).2; have HZ1_c3 := (HZ1.out.2 3 (by decide)).1; have HZ1_f3 := (HZ1.out.2 3 (by decide)).2; have HZ1_c4 := (HZ1.out.2 4 (by decide)).1; have HZ1_f4 := (HZ1.out.2 4 (by decide)).2; have HZ1_c5 := (HZ1.out.2 5 (by decide)).1; have HZ1_f5 := (HZ1.out.2 5 (by decide)).2; have HZ1_c6 := (HZ1.out.2 6 (by decide)).1; have HZ1_f6 := (HZ1.out.2 6 (by decide)).2; have HZ1_c7 := (HZ1.out.2 7 (by decide)).1; have HZ1_f7 := (HZ1.out.2 7 (by decide)).2; have HZ1_c8 := (HZ1.out.2 8 (by decide)).1; have HZ1_f8 := (HZ1.out.2 8 (by decide)).2; have HZ1_c9 := (HZ1.out.2 9 (by decide)).1; have HZ1_f9 := (HZ1.out.2 9 (by decide)).2; have HZ1_c10 := (HZ1.out.2 10 (by decide)).1; have HZ1_f10 := (HZ1.out.2 10 (by decide)).2; have HZ1_c11 := (HZ1.out.2 11 (by decide)).1; have HZ1_f11 := (HZ1.out.2 11 (by decide)).2; have HZ1_z := HZ1.out.1
  obtain ⟨a0, b0⟩ := HF1.out.2 0 (by decide)
  obtain ⟨a1, b1⟩ := HF1.out.2 1 (by decide)
  have ar := HF1.out.row2
  have az := HF1.out.1
  have := HB1.out
  go_wp2
  generalize hwf : World.setCell _ _ _ = wf; have r1 : wf.rangeAt (w.heap.size + 1) 0 [.int .i64 ((fun _ => 0) 0), .int .i64 ((fun _ => 0) 1), .int .i64 ((fun _ => 0) 2), .int .i64 ((fun _ => 0) 3), .int .i64 ((fun _ => 0) 4), .int .i64 ((fun _ => 0) 5), .int .i64 ((fun _ => 0) 6), .int .i64 ((fun _ => 0) 7), .int .i64 ((fun _ => 0) 8), .int .i64 ((fun _ => 0) 9), .int .i64 ((fun _ => 0) 10), .int .i64 ((fun _ => 0) 11)] := (by rw [← hwf]; exact rng); have r2 : wf.rangeAt (w.heap.size + 1 + 1) 0 [.int .i64 (0), .int .i64 (0)] := (by rw [← hwf]; exact rng); have r3 : Below w.heap.size w wf := (by rw [← hwf]; exact bel); refine bodyPost_ret (ret_cell2_tmp Try.results25 (w.heap.size + 1) [.int .i64 ((fun _ => 0) 0), .int .i64 ((fun _ => 0) 1), .int .i64 ((fun _ => 0) 2), .int .i64 ((fun _ => 0) 3), .int .i64 ((fun _ => 0) 4), .int .i64 ((fun _ => 0) 5), .int .i64 ((fun _ => 0) 6), .int .i64 ((fun _ => 0) 7), .int .i64 ((fun _ => 0) 8), .int .i64 ((fun _ => 0) 9), .int .i64 ((fun _ => 0) 10), .int .i64 ((fun _ => 0) 11)] _ (w.heap.size + 1 + 1) [.int .i64 (0), .int .i64 (0)] _ rfl rfl r1 Try.underlying24 rfl (by kernel_rfl) r2 Try.underlying33 rfl (by kernel_rfl)) rfl ⟨rfl, r3⟩
end Go.Proofs.Ytkdmmomfolhfbaa
