
import Derived.Test.YtijgabippedhpaaRows
import Derived.Test.YtijgabippedhpaaGate0
import Derived.Test.YtijgabippedhpaaVoteH
namespace Go.Proofs.Ytijgabippedhpaa
set_option linter.unusedVariables false
set_option linter.unusedSimpArgs false
open Go.ChangeShapes Go.WideShapes Go.RowKit

theorem at_none {l : Nat → Int} {p : Nat} (h0 : l (p * 2) = 0) (h1 : l (p * 2 + 1) = 0) : Gate.At l p := Or.inl ⟨h0, h1⟩
theorem at_one {l : Nat → Int} {p : Nat} {k : Int} (hk : k = 1 ∨ k = 2) (h0 : l (p * 2) = k) (h1 : l (p * 2 + 1) = p) : Gate.At l p := Or.inr ⟨by omega, h1⟩
set_option maxHeartbeats 2000000 in
theorem refGFits_any (n : Int) (va : Value) (m : Nat) (l : Nat → Int) (w : World) (hm : m ≤ maxLen) (hl : Prs w va m l) :
    Calls Try.prog 15 #[.int .i64 n, va] w fun e w' => e = .returned (.bool (Gate.fits n m l)) ∧ Below w.heap.size w w' := by
  obtain ⟨p1, c1, rfl⟩ := hl.form
  have hml : maxLen = 9223372036854775807 := by unfold maxLen; rfl
  rw [hml] at hm
  have HL := Lib.hid hl
  clear hl hml
  go_enter Try.func15, Try.ntmps15
  go_wp2_with fail
  go_loopw [5] (fun k wr => ∃ K : Nat, K ≤ m ∧ k = .int .i64 K ∧ Below w.heap.size w wr ∧ ∀ p, p < K → Gate.At l p) (fun k _ => m - (intOf k).toNat)
  case atStart => exact ⟨0, by omega, rfl, bel, fun j hj => by omega⟩
  case round =>
    obtain ⟨K, hK, rfl, hb, hq⟩ := hrel
    have HB := Lib.hid hb
    have HQ := Lib.hid hq
    by_cases hlt : K < m
    · have h1 : (K : Int) < m := by omega
      have h0 : (0 : Int) ≤ K := by omega
      obtain ⟨b1, o1, rfl, hl1, hc1⟩ := HL.out.some (by omega)
      obtain ⟨c0, c1⟩ := two_cells hc1 hb hlt
      clear hb hq hc1
      have HA := Lib.hid (fun h0 h1 => at_none (l := l) (p := K) h0 h1)
      have HO := Lib.hid (fun (k : Int) hk h0 h1 => at_one (l := l) (p := K) (k := k) hk h0 h1)
      have HN : Hid (¬ Gate.At l K → Gate.fits n m l = false) := fun h => Gate.fits_no (fun q => h (q.2.2 K hlt))
      have HT : Hid (Gate.At l K → (l (K * 2) = 0 ∧ l (K * 2 + 1) = 0) ∨ ((l (K * 2) = 1 ∨ l (K * 2) = 2) ∧ l (K * 2 + 1) = K)) := fun h => h
      generalize l (K * 2) = k at *
      generalize l (K * 2 + 1) = i at *
      by_cases hk : k = 1 ∨ k = 2
      · by_cases hi : i = K
        · have HAT := Lib.hid (HO.out k hk rfl hi)
          subst hi
          rcases hk with rfl | rfl
          all_goals
            go_wp2
            go_roundw
            case rel =>
              have := HB.out
              refine ⟨K + 1, by omega, by go_num, bel, fun j hj => ?_⟩
              by_cases e : j = K
              · subst e; exact HAT.out
              · exact HQ.out j (by omega)
            case measure => simp [intOf]; omega
        · have HF := Lib.hid (HN.out (fun q => by have := HT.out q; omega))
          have e0 : (i == (K : Int)) = false := by simp [hi]
          clear hi
          rcases hk with rfl | rfl
          all_goals
            have := HB.out
            go_wp2
            go_ret
            exact ⟨by rw [HF.out]; rfl, bel⟩
      · have e1 : (k == 1) = false := by simp; omega
        have e2 : (k == 2) = false := by simp; omega
        by_cases h00 : k = 0 ∧ i = 0
        · have HAT := Lib.hid (HA.out h00.1 h00.2)
          obtain ⟨rfl, rfl⟩ := h00
          clear hk e1 e2
          go_wp2
          go_roundw
          case rel =>
            have := HB.out
            refine ⟨K + 1, by omega, by go_num, bel, fun j hj => ?_⟩
            by_cases e : j = K
            · subst e; exact HAT.out
            · exact HQ.out j (by omega)
          case measure => simp [intOf]; omega
        · have HF := Lib.hid (HN.out (fun q => by have := HT.out q; omega))
          by_cases hk0 : k = 0
          · have e3 : (i == 0) = false := by simp; omega
            subst hk0
            clear hk e1 e2 h00
            have := HB.out
            go_wp2
            go_ret
            exact ⟨by rw [HF.out]; rfl, bel⟩
          · have e3 : (k == 0) = false := by simp [hk0]
            clear hk h00 hk0
            have := HB.out
            go_wp2
            go_ret
            exact ⟨by rw [HF.out]; rfl, bel⟩
    · obtain rfl : K = m := by omega
      clear hb hq
      have HB2 := HB
      by_cases hr : Conf.right n = true
      · have h38 := Conf.right_spec.1 hr
        by_cases he : (K : Int) = n
        · have HF : Hid (Gate.fits n K l = true) := Gate.fits_iff.2 ⟨h38, he, HQ.out⟩
          subst he
          go_wp2_with fail
          refine (refCright_any _ _).mono ?_; rintro e w' ⟨rfl, rfl⟩
          rw [hr]
          have := HB.out
          go_wp2
          go_ret
          exact ⟨by rw [HF.out]; rfl, bel⟩
        · have HF : Hid (Gate.fits n K l = false) := Gate.fits_no (fun q => he q.2.1)
          have e0 : ((K : Int) == n) = false := by simp [he]
          clear he
          go_wp2_with fail
          refine (refCright_any _ _).mono ?_; rintro e w' ⟨rfl, rfl⟩
          rw [hr]
          have := HB.out
          go_wp2
          go_ret
          exact ⟨by rw [HF.out]; rfl, bel⟩
      · have HF : Hid (Gate.fits n K l = false) := Gate.fits_no (fun q => hr (Conf.right_spec.2 q.1))
        have hr := Bool.eq_false_iff.2 hr
        go_wp2_with fail
        refine (refCright_any _ _).mono ?_; rintro e w' ⟨rfl, rfl⟩
        rw [hr]
        have := HB.out
        go_wp2
        go_ret
        exact ⟨by rw [HF.out]; rfl, bel⟩
theorem refWrong_any (n : Int) (f : Nat → Int) (va : Value) (m : Nat) (l : Nat → Int) (w : World) (hm : m ≤ maxLen) (hl : Prs w va m l) :
    Calls Try.prog 22 #[.int .i64 n, .agg #[.int .i64 (f 0), .int .i64 (f 1), .int .i64 (f 2), .int .i64 (f 3), .int .i64 (f 4), .int .i64 (f 5), .int .i64 (f 6), .int .i64 (f 7), .int .i64 (f 8), .int .i64 (f 9), .int .i64 (f 10), .int .i64 (f 11)], va] w fun e w' => e = .returned (.int .i64 (Gate.wrong n f m l)) ∧ Below w.heap.size w w' := by
  have HL := Lib.hid hl
  clear hl
  by_cases h : Vote.ok n f = true
  · have HW : Hid (Gate.wrong n f m l = if Gate.fits n m l = true then 0 else 2) := by
      show Gate.wrong n f m l = _
      unfold Gate.wrong
      rw [if_pos h]
    go_enter Try.func22, Try.ntmps22
    go_wp2_with fail
    refine (refVRight_any n f _).mono ?_; rintro e w1 ⟨rfl, hb⟩; have hz := hb.size; (try simp only [World.size_alloc, World.heap_drewN, World.size_drew, World.size_setCell] at hz)
    rw [h]
    have HB1 := Lib.hid (show Below w.heap.size w w1 from bel)
    clear hb
    go_wp2_with fail
    refine (refGFits_any n va m l _ hm (HL.out.below HB1.out)).mono ?_; rintro e w2 ⟨rfl, hb⟩; have hz := hb.size; (try simp only [World.size_alloc, World.heap_drewN, World.size_drew, World.size_setCell] at hz)
    have HB2 := Lib.hid (show Below w.heap.size w w2 from by have := HB1.out; exact bel)
    clear hb
    cases hq : Gate.fits n m l
    all_goals
      have := HB2.out
      go_wp2
      go_ret
      exact ⟨by rw [HW.out, hq]; rfl, bel⟩
  · have h := Bool.eq_false_iff.2 h
    have HW : Hid (Gate.wrong n f m l = 1) := by
      show Gate.wrong n f m l = 1
      unfold Gate.wrong
      rw [h]
      rfl
    go_enter Try.func22, Try.ntmps22
    go_wp2_with fail
    refine (refVRight_any n f _).mono ?_; rintro e w1 ⟨rfl, hb⟩; have hz := hb.size; (try simp only [World.size_alloc, World.heap_drewN, World.size_drew, World.size_setCell] at hz)
    rw [h]
    go_wp2
    go_ret
    exact ⟨by rw [HW.out]; rfl, bel⟩
end Go.Proofs.Ytijgabippedhpaa
