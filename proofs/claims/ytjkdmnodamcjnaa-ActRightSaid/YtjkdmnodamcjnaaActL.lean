
import Derived.Test.YtjkdmnodamcjnaaRows
import Derived.Test.YtjkdmnodamcjnaaActH
import Derived.BigRegion
import Derived.Deep.QuietTactic
import Derived.BigQuiet
import Derived.LoopN
import Derived.Deep.Cut
import Derived.Deep.CutRange
namespace Go.Proofs.Ytjkdmnodamcjnaa
set_option linter.unusedVariables false
set_option linter.unusedSimpArgs false
open Go.ChangeShapes Go.WideShapes Go.RowKit

/-- Whoever hears an Info, and nothing else, is Active in the slot behind it, or listens. -/
theorem Act.hears0 {n i m c p i0 : Int} (hm : m ≠ 0) (h : Node.right n i m c p = true) : (Act.step n i m c p 2 i0 0 0).m = 1 ∨ (Act.step n i m c p 2 i0 0 0).m = 3 ∧ (Act.step n i m c p 2 i0 0 0).p = (i0 + 1) % n := by
  have hr := Say.right_of h
  by_cases h3 : m = 3
  · subst h3
    unfold Act.step Act.active
    rw [if_pos rfl]
    by_cases hp : i0 = p
    · subst hp
      right
      simp [Hear.isWrong, Hear.isOther, Hear.isMatch]
    · left
      simp [Hear.isWrong, hp]
  · right
    unfold Act.step Act.cold Act.listen
    rw [if_neg h3]
    simp [Hear.isInfo, Hear.firstI]
theorem Act.hears1 {n i m c p i1 : Int} (hm : m ≠ 0) (h : Node.right n i m c p = true) : (Act.step n i m c p 0 0 2 i1).m = 1 ∨ (Act.step n i m c p 0 0 2 i1).m = 3 ∧ (Act.step n i m c p 0 0 2 i1).p = (i1 + 1) % n := by
  have hr := Say.right_of h
  by_cases h3 : m = 3
  · subst h3
    unfold Act.step Act.active
    rw [if_pos rfl]
    by_cases hp : i1 = p
    · subst hp
      right
      simp [Hear.isWrong, Hear.isOther, Hear.isMatch]
    · left
      simp [Hear.isWrong, hp]
  · right
    unfold Act.step Act.cold Act.listen
    rw [if_neg h3]
    simp [Hear.isInfo, Hear.firstI]
set_option maxRecDepth 20000 in
set_option maxHeartbeats 4000000 in
theorem actRight_walk (a : Nat) (ha : a < 256) (i : Int) (hi : -9223372036854775808 ≤ i ∧ i ≤ 9223372036854775807) (m : Int) (hm : -9223372036854775808 ≤ m ∧ m ≤ 9223372036854775807) (c : Int) (hc : -9223372036854775808 ≤ c ∧ c ≤ 9223372036854775807) (p : Int) (hp : -9223372036854775808 ≤ p ∧ p ≤ 9223372036854775807) (k0 : Int) (hk0 : -9223372036854775808 ≤ k0 ∧ k0 ≤ 9223372036854775807) (i0 : Int) (hi0 : -9223372036854775808 ≤ i0 ∧ i0 ≤ 9223372036854775807) (k1 : Int) (hk1 : -9223372036854775808 ≤ k1 ∧ k1 ≤ 9223372036854775807) (i1 : Int) (hi1 : -9223372036854775808 ≤ i1 ∧ i1 ≤ 9223372036854775807) (w : World) :
    Calls Try.prog 4 #[.int .u8 a, .agg #[.int .i64 i, .int .i64 m, .int .i64 c, .int .i64 p], .agg #[.int .i64 k0, .int .i64 i0, .int .i64 k1, .int .i64 i1]] w fun e w' => e = .returned (.bool true) ∧ Below w.heap.size w w' := by
  have HI := Lib.hid (And.intro hi0 hi1)
  clear hi hm hc hp hk0 hi0 hk1 hi1
  have g3 : (3 : Int) ≤ 3 + (a : Int) % 6 := by omega
  have g8 : 3 + (a : Int) % 6 ≤ 8 := by omega
  go_enter Try.func4, Try.ntmps4
  go_wp2_with fail
  generalize hMM : 3 + (a : Int) % 6 = M at *
  clear hMM
  have CH := Lib.hid (fun w => refHeard_any M k0 i0 k1 i1 w)
  by_cases hh : Act.heard M k0 i0 k1 i1 = true
  · rw [hh] at CH
    have hh2 := Act.heard_of hh
    have CS := Lib.hid (fun w => actStep_any M i m c p k0 i0 k1 i1 hh w)
    have CX := Lib.hid (fun w => refNright_any M i m c p w)
    by_cases hg : Act.good M i m c p = true
    · obtain ⟨hr, hm0⟩ := Act.good_right hg
      have hs := Act.step_good hg hh
      dsimp only at hs
      have F0 : (k0 == 2) = true → (k1 == 0) = true → (i1 == 0) = true → (Act.step M i m c p k0 i0 k1 i1).m = 1 ∨ (Act.step M i m c p k0 i0 k1 i1).m = 3 ∧ (Act.step M i m c p k0 i0 k1 i1).p = (i0 + 1) % M := by
        intro q0 q1 q2
        simp only [beq_iff_eq] at q0 q1 q2
        subst q0 q1 q2
        exact Act.hears0 hm0 hr
      have F1 : (k1 == 2) = true → (k0 == 0) = true → (i0 == 0) = true → (Act.step M i m c p k0 i0 k1 i1).m = 1 ∨ (Act.step M i m c p k0 i0 k1 i1).m = 3 ∧ (Act.step M i m c p k0 i0 k1 i1).p = (i1 + 1) % M := by
        intro q0 q1 q2
        simp only [beq_iff_eq] at q0 q1 q2
        subst q0 q1 q2
        exact Act.hears1 hm0 hr
      rw [show Act.next M i m c p k0 i0 k1 i1 = Act.step M i m c p k0 i0 k1 i1 by unfold Act.next; rw [if_pos hg], show Act.err M i m c p = 0 by unfold Act.err; rw [if_pos hg]] at CS
      rw [hr] at CX
      generalize Act.step M i m c p k0 i0 k1 i1 = y at *
      obtain ⟨yi, ym, yc, yp⟩ := y
      dsimp only at hs F0 F1
      rw [show Act.val ⟨yi, ym, yc, yp⟩ = .agg #[.int .i64 yi, .int .i64 ym, .int .i64 yc, .int .i64 yp] from rfl] at CS
      obtain ⟨hyi, hyg⟩ := hs
      obtain ⟨hyr, hym⟩ := Act.good_right hyg
      have CY := Lib.hid (fun w => refNright_any M yi ym yc yp w)
      rw [hyr] at CY
      have HM := Lib.hid (show (3 ≤ M ∧ M ≤ 8) ∧ (k0 = 2 → 0 ≤ i0 ∧ i0 < M) ∧ (k1 = 2 → 0 ≤ i1 ∧ i1 < M) from ⟨⟨g3, g8⟩, by omega, by omega⟩)
      have HF0 := Lib.hid F0
      have HF1 := Lib.hid F1
      have e1 : (m == 0) = false := by simp [hm0]
      have e2 : (yi != i) = false := by simp [hyi]
      have e3 : (ym == 0) = false := by simp [hym]
      have e4 : (M == 0) = false := by simp; omega
      clear hh hh2 hg hr hm0 F0 F1 hyi hyg hyr hym
      refine (CH.out _).mono ?_; rintro e wa ⟨rfl, hb⟩; have hz := hb.size; (try simp only [World.size_alloc, World.heap_drewN, World.size_drew, World.size_setCell] at hz)
      have HB1 := Lib.hid (show Below w.heap.size w wa from bel)
      have z_rx : (w.heap.size) < wa.heap.size := (by omega); replace rx : wa.rangeAt (w.heap.size) 0 [.int .i64 i, .int .i64 m, .int .i64 c, .int .i64 p] := rng
      have z_rh : (w.heap.size + 1) < wa.heap.size := (by omega); replace rh : wa.rangeAt (w.heap.size + 1) 0 [.int .i64 k0, .int .i64 i0, .int .i64 k1, .int .i64 i1] := rng
      clear hb
      replace rx_0 := range_cell rx 0 rfl; replace rx_1 := range_cell rx 1 rfl; replace rx_2 := range_cell rx 2 rfl; replace rx_3 := range_cell rx 3 rfl
      replace rh_0 := range_cell rh 0 rfl; replace rh_1 := range_cell rh 1 rfl; replace rh_2 := range_cell rh 2 rfl; replace rh_3 := range_cell rh 3 rfl
      go_wp2_with fail
      refine (CS.out _).mono ?_; rintro e wb ⟨rfl, hb⟩; have hz := hb.size; (try simp only [World.size_alloc, World.heap_drewN, World.size_drew, World.size_setCell] at hz)
      have HB2 := Lib.hid (show Below w.heap.size w wb from by have := HB1.out; exact bel)
      have z_rx : (w.heap.size) < wb.heap.size := (by omega); replace rx : wb.rangeAt (w.heap.size) 0 [.int .i64 i, .int .i64 m, .int .i64 c, .int .i64 p] := rng
      have z_rh : (w.heap.size + 1) < wb.heap.size := (by omega); replace rh : wb.rangeAt (w.heap.size + 1) 0 [.int .i64 k0, .int .i64 i0, .int .i64 k1, .int .i64 i1] := rng
      clear hb
      replace rx_0 := range_cell rx 0 rfl; replace rx_1 := range_cell rx 1 rfl; replace rx_2 := range_cell rx 2 rfl; replace rx_3 := range_cell rx 3 rfl
      replace rh_0 := range_cell rh 0 rfl; replace rh_1 := range_cell rh 1 rfl; replace rh_2 := range_cell rh 2 rfl; replace rh_3 := range_cell rh 3 rfl
      go_wp2_with fail
      refine (CX.out _).mono ?_; rintro e wc ⟨rfl, hb⟩; have hz := hb.size; (try simp only [World.size_alloc, World.heap_drewN, World.size_drew, World.size_setCell] at hz)
      have HB3 := Lib.hid (show Below w.heap.size w wc from by have := HB2.out; exact bel)
      have z_rx : (w.heap.size) < wc.heap.size := (by omega); replace rx : wc.rangeAt (w.heap.size) 0 [.int .i64 i, .int .i64 m, .int .i64 c, .int .i64 p] := rng
      have z_rh : (w.heap.size + 1) < wc.heap.size := (by omega); replace rh : wc.rangeAt (w.heap.size + 1) 0 [.int .i64 k0, .int .i64 i0, .int .i64 k1, .int .i64 i1] := rng
      have z_ry : (wb.heap.size) < wc.heap.size := (by omega); replace ry : wc.rangeAt (wb.heap.size) 0 [.int .i64 yi, .int .i64 ym, .int .i64 yc, .int .i64 yp] := rng
      clear hb
      replace rx_0 := range_cell rx 0 rfl; replace rx_1 := range_cell rx 1 rfl; replace rx_2 := range_cell rx 2 rfl; replace rx_3 := range_cell rx 3 rfl
      replace rh_0 := range_cell rh 0 rfl; replace rh_1 := range_cell rh 1 rfl; replace rh_2 := range_cell rh 2 rfl; replace rh_3 := range_cell rh 3 rfl
      replace ry_0 := range_cell ry 0 rfl; replace ry_1 := range_cell ry 1 rfl; replace ry_2 := range_cell ry 2 rfl; replace ry_3 := range_cell ry 3 rfl
      go_wp2_with fail
      refine (CY.out _).mono ?_; rintro e wd ⟨rfl, hb⟩; have hz := hb.size; (try simp only [World.size_alloc, World.heap_drewN, World.size_drew, World.size_setCell] at hz)
      have HB4 := Lib.hid (show Below w.heap.size w wd from by have := HB3.out; exact bel)
      have z_rx : (w.heap.size) < wd.heap.size := (by omega); replace rx : wd.rangeAt (w.heap.size) 0 [.int .i64 i, .int .i64 m, .int .i64 c, .int .i64 p] := rng
      have z_rh : (w.heap.size + 1) < wd.heap.size := (by omega); replace rh : wd.rangeAt (w.heap.size + 1) 0 [.int .i64 k0, .int .i64 i0, .int .i64 k1, .int .i64 i1] := rng
      have z_ry : (wb.heap.size) < wd.heap.size := (by omega); replace ry : wd.rangeAt (wb.heap.size) 0 [.int .i64 yi, .int .i64 ym, .int .i64 yc, .int .i64 yp] := rng
      clear hb
      replace rx_0 := range_cell rx 0 rfl; replace rx_1 := range_cell rx 1 rfl; replace rx_2 := range_cell rx 2 rfl; replace rx_3 := range_cell rx 3 rfl
      replace rh_0 := range_cell rh 0 rfl; replace rh_1 := range_cell rh 1 rfl; replace rh_2 := range_cell rh 2 rfl; replace rh_3 := range_cell rh 3 rfl
      replace ry_0 := range_cell ry 0 rfl; replace ry_1 := range_cell ry 1 rfl; replace ry_2 := range_cell ry 2 rfl; replace ry_3 := range_cell ry 3 rfl
      go_wp2_with fail
      refine wp_loop_rounds 3 ?_
      rw [rounds_succ]
      go_upto_region 12 with fail
      go_cut [99] from 65 to 99 (fun s99 wx => s99 = .bool false ∧ wb.heap.size < wx.heap.size ∧ Below w.heap.size w wx ∧ wx.rangeAt (w.heap.size + 1) 0 [.int .i64 k0, .int .i64 i0, .int .i64 k1, .int .i64 i1] ∧ wx.rangeAt wb.heap.size 0 [.int .i64 yi, .int .i64 ym, .int .i64 yc, .int .i64 yp])
      case first =>
        cases q0 : (k0 == 2)
        · go_quiet (fail)
          go_wp2_with fail
          go_meet
          have := HB4.out
          exact ⟨rfl, by simp; omega, bel, rng, rng⟩
        · cases q1 : (k1 == 0)
          · go_quiet (fail)
            go_wp2_with fail
            go_meet
            have := HB4.out
            exact ⟨rfl, by simp; omega, bel, rng, rng⟩
          · cases q2 : (i1 == 0)
            · go_quiet (fail)
              go_wp2_with fail
              go_meet
              have := HB4.out
              exact ⟨rfl, by simp; omega, bel, rng, rng⟩
            · have hq := HF0.out q0 q1 q2
              rcases hq with hq | ⟨hq1, hq2⟩
              · have q3 : (ym != 1) = false := by simp [hq]
                clear hq
                go_quiet (fail)
                go_wp2_with fail
                go_meet
                have := HB4.out
                exact ⟨rfl, by simp; omega, bel, rng, rng⟩
              · have q3 : (ym != 1) = true := by simp [hq1]
                have q4 : (ym != 3) = false := by simp [hq1]
                have hkb := HM.out.2.1 (by simpa using q0)
                have htm : Int.tmod (i0 + 1) M = (i0 + 1) % M := Int.tmod_eq_emod_of_nonneg (by omega)
                have q5 : (yp != (i0 + 1) % M) = false := by simp [hq2]
                clear hq1 hq2
                go_quiet (fail)
                go_wp2_with fail
                go_meet
                have := HB4.out
                exact ⟨rfl, by simp; omega, bel, rng, rng⟩
      case rest =>
        obtain ⟨rfl, zc, hbel, rh, ry⟩ := hcut
        have HB5 := Lib.hid hbel
        clear hbel
        replace rh_0 := range_cell rh 0 rfl; replace rh_1 := range_cell rh 1 rfl; replace rh_2 := range_cell rh 2 rfl; replace rh_3 := range_cell rh 3 rfl
        replace ry_0 := range_cell ry 0 rfl; replace ry_1 := range_cell ry 1 rfl; replace ry_2 := range_cell ry 2 rfl; replace ry_3 := range_cell ry 3 rfl
        go_wp2_with fail
        rw [rounds_succ]
        go_upto_region 12 with fail
        go_cut [99] from 65 to 99 (fun s99 wx => s99 = .bool false ∧ wb.heap.size < wx.heap.size ∧ Below w.heap.size w wx ∧ wx.rangeAt (w.heap.size + 1) 0 [.int .i64 k0, .int .i64 i0, .int .i64 k1, .int .i64 i1] ∧ wx.rangeAt wb.heap.size 0 [.int .i64 yi, .int .i64 ym, .int .i64 yc, .int .i64 yp])
        case first =>
          cases q0 : (k1 == 2)
          · go_quiet (fail)
            go_wp2_with fail
            go_meet
            have := HB5.out
            exact ⟨rfl, by simp; omega, bel, rng, rng⟩
          · cases q1 : (k0 == 0)
            · go_quiet (fail)
              go_wp2_with fail
              go_meet
              have := HB5.out
              exact ⟨rfl, by simp; omega, bel, rng, rng⟩
            · cases q2 : (i0 == 0)
              · go_quiet (fail)
                go_wp2_with fail
                go_meet
                have := HB5.out
                exact ⟨rfl, by simp; omega, bel, rng, rng⟩
              · have hq := HF1.out q0 q1 q2
                rcases hq with hq | ⟨hq1, hq2⟩
                · have q3 : (ym != 1) = false := by simp [hq]
                  clear hq
                  go_quiet (fail)
                  go_wp2_with fail
                  go_meet
                  have := HB5.out
                  exact ⟨rfl, by simp; omega, bel, rng, rng⟩
                · have q3 : (ym != 1) = true := by simp [hq1]
                  have q4 : (ym != 3) = false := by simp [hq1]
                  have hkb := HM.out.2.2 (by simpa using q0)
                  have htm : Int.tmod (i1 + 1) M = (i1 + 1) % M := Int.tmod_eq_emod_of_nonneg (by omega)
                  have q5 : (yp != (i1 + 1) % M) = false := by simp [hq2]
                  clear hq1 hq2
                  go_quiet (fail)
                  go_wp2_with fail
                  go_meet
                  have := HB5.out
                  exact ⟨rfl, by simp; omega, bel, rng, rng⟩
        case rest =>
          obtain ⟨rfl, zc, hbel, rh, ry⟩ := hcut
          have HB6 := Lib.hid hbel
          clear hbel
          replace rh_0 := range_cell rh 0 rfl; replace rh_1 := range_cell rh 1 rfl; replace rh_2 := range_cell rh 2 rfl; replace rh_3 := range_cell rh 3 rfl
          replace ry_0 := range_cell ry 0 rfl; replace ry_1 := range_cell ry 1 rfl; replace ry_2 := range_cell ry 2 rfl; replace ry_3 := range_cell ry 3 rfl
          go_wp2_with fail
          rw [rounds_succ]
          go_wp2_with fail
          refine (awake9_any _).mono ?_; rintro e wf ⟨rfl, hb⟩; have hz := hb.size; (try simp only [World.size_alloc, World.heap_drewN, World.size_drew, World.size_setCell] at hz)
          have := HB6.out
          go_wp2
          go_ret
          exact ⟨rfl, bel⟩
    · have hg := Bool.eq_false_iff.2 hg
      rw [show Act.next M i m c p k0 i0 k1 i1 = Act.none by unfold Act.next; rw [hg]; rfl, show Act.err M i m c p = 1 by unfold Act.err; rw [hg]; rfl, show Act.val Act.none = .agg #[.int .i64 0, .int .i64 0, .int .i64 0, .int .i64 0] from rfl] at CS
      unfold Act.good at hg
      by_cases hr : Node.right M i m c p = true
      · rw [hr] at hg CX
        have e1 : (m == 0) = true := by simpa using hg
        clear hg hr hh hh2
        refine (CH.out _).mono ?_; rintro e wa ⟨rfl, hb⟩; have hz := hb.size; (try simp only [World.size_alloc, World.heap_drewN, World.size_drew, World.size_setCell] at hz)
        have HB1 := Lib.hid (show Below w.heap.size w wa from bel)
        have z_rx : (w.heap.size) < wa.heap.size := (by omega); replace rx : wa.rangeAt (w.heap.size) 0 [.int .i64 i, .int .i64 m, .int .i64 c, .int .i64 p] := rng
        have z_rh : (w.heap.size + 1) < wa.heap.size := (by omega); replace rh : wa.rangeAt (w.heap.size + 1) 0 [.int .i64 k0, .int .i64 i0, .int .i64 k1, .int .i64 i1] := rng
        clear hb
        replace rx_0 := range_cell rx 0 rfl; replace rx_1 := range_cell rx 1 rfl; replace rx_2 := range_cell rx 2 rfl; replace rx_3 := range_cell rx 3 rfl
        replace rh_0 := range_cell rh 0 rfl; replace rh_1 := range_cell rh 1 rfl; replace rh_2 := range_cell rh 2 rfl; replace rh_3 := range_cell rh 3 rfl
        go_wp2_with fail
        refine (CS.out _).mono ?_; rintro e wb ⟨rfl, hb⟩; have hz := hb.size; (try simp only [World.size_alloc, World.heap_drewN, World.size_drew, World.size_setCell] at hz)
        have HB2 := Lib.hid (show Below w.heap.size w wb from by have := HB1.out; exact bel)
        have z_rx : (w.heap.size) < wb.heap.size := (by omega); replace rx : wb.rangeAt (w.heap.size) 0 [.int .i64 i, .int .i64 m, .int .i64 c, .int .i64 p] := rng
        have z_rh : (w.heap.size + 1) < wb.heap.size := (by omega); replace rh : wb.rangeAt (w.heap.size + 1) 0 [.int .i64 k0, .int .i64 i0, .int .i64 k1, .int .i64 i1] := rng
        clear hb
        replace rx_0 := range_cell rx 0 rfl; replace rx_1 := range_cell rx 1 rfl; replace rx_2 := range_cell rx 2 rfl; replace rx_3 := range_cell rx 3 rfl
        replace rh_0 := range_cell rh 0 rfl; replace rh_1 := range_cell rh 1 rfl; replace rh_2 := range_cell rh 2 rfl; replace rh_3 := range_cell rh 3 rfl
        go_wp2_with fail
        refine (CX.out _).mono ?_; rintro e wc ⟨rfl, hb⟩; have hz := hb.size; (try simp only [World.size_alloc, World.heap_drewN, World.size_drew, World.size_setCell] at hz)
        have HB3 := Lib.hid (show Below w.heap.size w wc from by have := HB2.out; exact bel)
        have z_rx : (w.heap.size) < wc.heap.size := (by omega); replace rx : wc.rangeAt (w.heap.size) 0 [.int .i64 i, .int .i64 m, .int .i64 c, .int .i64 p] := rng
        have z_rh : (w.heap.size + 1) < wc.heap.size := (by omega); replace rh : wc.rangeAt (w.heap.size + 1) 0 [.int .i64 k0, .int .i64 i0, .int .i64 k1, .int .i64 i1] := rng
        clear hb
        replace rx_0 := range_cell rx 0 rfl; replace rx_1 := range_cell rx 1 rfl; replace rx_2 := range_cell rx 2 rfl; replace rx_3 := range_cell rx 3 rfl
        replace rh_0 := range_cell rh 0 rfl; replace rh_1 := range_cell rh 1 rfl; replace rh_2 := range_cell rh 2 rfl; replace rh_3 := range_cell rh 3 rfl
        go_wp2_with fail
        refine (awake9_any _).mono ?_; rintro e wd ⟨rfl, hb⟩; have hz := hb.size; (try simp only [World.size_alloc, World.heap_drewN, World.size_drew, World.size_setCell] at hz)
        have := HB3.out
        go_wp2
        go_ret
        exact ⟨rfl, bel⟩
      · have hr := Bool.eq_false_iff.2 hr
        rw [hr] at CX
        clear hg hr hh hh2
        refine (CH.out _).mono ?_; rintro e wa ⟨rfl, hb⟩; have hz := hb.size; (try simp only [World.size_alloc, World.heap_drewN, World.size_drew, World.size_setCell] at hz)
        have HB1 := Lib.hid (show Below w.heap.size w wa from bel)
        have z_rx : (w.heap.size) < wa.heap.size := (by omega); replace rx : wa.rangeAt (w.heap.size) 0 [.int .i64 i, .int .i64 m, .int .i64 c, .int .i64 p] := rng
        have z_rh : (w.heap.size + 1) < wa.heap.size := (by omega); replace rh : wa.rangeAt (w.heap.size + 1) 0 [.int .i64 k0, .int .i64 i0, .int .i64 k1, .int .i64 i1] := rng
        clear hb
        replace rx_0 := range_cell rx 0 rfl; replace rx_1 := range_cell rx 1 rfl; replace rx_2 := range_cell rx 2 rfl; replace rx_3 := range_cell rx 3 rfl
        replace rh_0 := range_cell rh 0 rfl; replace rh_1 := range_cell rh 1 rfl; replace rh_2 := range_cell rh 2 rfl; replace rh_3 := range_cell rh 3 rfl
        go_wp2_with fail
        refine (CS.out _).mono ?_; rintro e wb ⟨rfl, hb⟩; have hz := hb.size; (try simp only [World.size_alloc, World.heap_drewN, World.size_drew, World.size_setCell] at hz)
        have HB2 := Lib.hid (show Below w.heap.size w wb from by have := HB1.out; exact bel)
        have z_rx : (w.heap.size) < wb.heap.size := (by omega); replace rx : wb.rangeAt (w.heap.size) 0 [.int .i64 i, .int .i64 m, .int .i64 c, .int .i64 p] := rng
        have z_rh : (w.heap.size + 1) < wb.heap.size := (by omega); replace rh : wb.rangeAt (w.heap.size + 1) 0 [.int .i64 k0, .int .i64 i0, .int .i64 k1, .int .i64 i1] := rng
        clear hb
        replace rx_0 := range_cell rx 0 rfl; replace rx_1 := range_cell rx 1 rfl; replace rx_2 := range_cell rx 2 rfl; replace rx_3 := range_cell rx 3 rfl
        replace rh_0 := range_cell rh 0 rfl; replace rh_1 := range_cell rh 1 rfl; replace rh_2 := range_cell rh 2 rfl; replace rh_3 := range_cell rh 3 rfl
        go_wp2_with fail
        refine (CX.out _).mono ?_; rintro e wc ⟨rfl, hb⟩; have hz := hb.size; (try simp only [World.size_alloc, World.heap_drewN, World.size_drew, World.size_setCell] at hz)
        have HB3 := Lib.hid (show Below w.heap.size w wc from by have := HB2.out; exact bel)
        have z_rx : (w.heap.size) < wc.heap.size := (by omega); replace rx : wc.rangeAt (w.heap.size) 0 [.int .i64 i, .int .i64 m, .int .i64 c, .int .i64 p] := rng
        have z_rh : (w.heap.size + 1) < wc.heap.size := (by omega); replace rh : wc.rangeAt (w.heap.size + 1) 0 [.int .i64 k0, .int .i64 i0, .int .i64 k1, .int .i64 i1] := rng
        clear hb
        replace rx_0 := range_cell rx 0 rfl; replace rx_1 := range_cell rx 1 rfl; replace rx_2 := range_cell rx 2 rfl; replace rx_3 := range_cell rx 3 rfl
        replace rh_0 := range_cell rh 0 rfl; replace rh_1 := range_cell rh 1 rfl; replace rh_2 := range_cell rh 2 rfl; replace rh_3 := range_cell rh 3 rfl
        go_wp2_with fail
        refine (awake9_any _).mono ?_; rintro e wd ⟨rfl, hb⟩; have hz := hb.size; (try simp only [World.size_alloc, World.heap_drewN, World.size_drew, World.size_setCell] at hz)
        have := HB3.out
        go_wp2
        go_ret
        exact ⟨rfl, bel⟩
  · rw [Bool.eq_false_iff.2 hh] at CH
    clear hh
    refine (CH.out _).mono ?_; rintro e wa ⟨rfl, hb⟩; have hz := hb.size; (try simp only [World.size_alloc, World.heap_drewN, World.size_drew, World.size_setCell] at hz)
    have HB1 := Lib.hid (show Below w.heap.size w wa from bel)
    have z_rx : (w.heap.size) < wa.heap.size := (by omega); replace rx : wa.rangeAt (w.heap.size) 0 [.int .i64 i, .int .i64 m, .int .i64 c, .int .i64 p] := rng
    have z_rh : (w.heap.size + 1) < wa.heap.size := (by omega); replace rh : wa.rangeAt (w.heap.size + 1) 0 [.int .i64 k0, .int .i64 i0, .int .i64 k1, .int .i64 i1] := rng
    clear hb
    replace rx_0 := range_cell rx 0 rfl; replace rx_1 := range_cell rx 1 rfl; replace rx_2 := range_cell rx 2 rfl; replace rx_3 := range_cell rx 3 rfl
    replace rh_0 := range_cell rh 0 rfl; replace rh_1 := range_cell rh 1 rfl; replace rh_2 := range_cell rh 2 rfl; replace rh_3 := range_cell rh 3 rfl
    go_wp2_with fail
    refine (awake9_any _).mono ?_; rintro e wb ⟨rfl, hb⟩; have hz := hb.size; (try simp only [World.size_alloc, World.heap_drewN, World.size_drew, World.size_setCell] at hz)
    have := HB1.out
    go_wp2
    go_ret
    exact ⟨rfl, bel⟩
end Go.Proofs.Ytjkdmnodamcjnaa
