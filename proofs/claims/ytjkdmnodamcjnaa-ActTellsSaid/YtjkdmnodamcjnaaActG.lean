
import Derived.Test.YtjkdmnodamcjnaaRows
import Derived.Test.YtjkdmnodamcjnaaActD
import Derived.Test.YtjkdmnodamcjnaaActF
import Derived.LoopTactic
namespace Go.Proofs.Ytjkdmnodamcjnaa
set_option linter.unusedVariables false
set_option linter.unusedSimpArgs false
open Go.ChangeShapes Go.WideShapes Go.RowKit

/-- The node's cells and the result's, and all that was there. -/
def Act.Kept (w : World) (y : Act.Nd) (wr : World) : Prop :=
  w.heap.size + 1 < wr.heap.size ∧ Below w.heap.size w wr ∧ wr.rangeAt w.heap.size 0 [.int .i64 y.i, .int .i64 y.m, .int .i64 y.c, .int .i64 y.p] ∧ Free wr w.heap.size ∧ wr.rangeAt (w.heap.size + 1) 0 [.int .i64 0, .int .i64 0, .int .i64 0, .int .i64 0] ∧ Free wr (w.heap.size + 1)
def Act.Kept_rel (w : World) (n : Int) (x : Act.Nd) (T : Nat) (k : Value) (wr : World) : Prop :=
  ∃ K : Nat, K ≤ T ∧ k = .int .i64 K ∧ Act.Kept w (Act.ticks n x K) wr
def Act.KeptN (w : World) (y : Act.Nd) (wr : World) : Prop :=
  w.heap.size + 1 + 1 < wr.heap.size ∧ Below w.heap.size w wr ∧ wr.rangeAt w.heap.size 0 [.int .i64 y.i, .int .i64 y.m, .int .i64 y.c, .int .i64 y.p] ∧ Free wr w.heap.size ∧ wr.rangeAt (w.heap.size + 1) 0 [.int .i64 0, .int .i64 0, .int .i64 0, .int .i64 0] ∧ Free wr (w.heap.size + 1) ∧ wr.rangeAt (w.heap.size + 1 + 1) 0 [.int .i64 0, .int .i64 0, .int .i64 0, .int .i64 0]
def Act.KeptN_rel (w : World) (n : Int) (x : Act.Nd) (T : Nat) (k : Value) (wr : World) : Prop :=
  ∃ K : Nat, K ≤ T ∧ k = .int .i64 K ∧ Act.KeptN w (Act.ticks n x K) wr
theorem actTick_any (n : Int) (y : Act.Nd) (hg : Act.good n y.i y.m y.c y.p = true) (w : World) :
    Calls Try.prog 9 #[.int .i64 n, .agg #[.int .i64 y.i, .int .i64 y.m, .int .i64 y.c, .int .i64 y.p], .agg #[.int .i64 0, .int .i64 0, .int .i64 0, .int .i64 0]] w fun e w' => e = .returned (.tuple #[Act.val (Act.tick n y), .int .i64 0]) ∧ Below w.heap.size w w' := by
  have h := actStep_any n y.i y.m y.c y.p 0 0 0 0 (Act.heard_none n) w
  rw [show Act.next n y.i y.m y.c y.p 0 0 0 0 = Act.tick n y by unfold Act.next; rw [if_pos hg]; rfl, show Act.err n y.i y.m y.c y.p = 0 by unfold Act.err; rw [if_pos hg]] at h
  exact h
set_option maxHeartbeats 1000000 in
theorem actQuiet_no (n i m c p t : Int) (hg : Act.good n i m c p = false) (w : World) :
    Calls Try.prog 11 #[.int .i64 n, .agg #[.int .i64 i, .int .i64 m, .int .i64 c, .int .i64 p], .int .i64 t] w fun e w' => e = .returned (.tuple #[.agg #[.int .i64 0, .int .i64 0, .int .i64 0, .int .i64 0], .int .i64 1]) ∧ Below w.heap.size w w' := by
  have CG := Lib.hid (fun w => actStep_any n i m c p 0 0 0 0 (Act.heard_none n) w)
  rw [show Act.next n i m c p 0 0 0 0 = Act.none by unfold Act.next; rw [hg]; rfl, show Act.err n i m c p = 1 by unfold Act.err; rw [hg]; rfl, show Act.val Act.none = .agg #[.int .i64 0, .int .i64 0, .int .i64 0, .int .i64 0] from rfl] at CG
  clear hg
  go_enter Try.func11, Try.ntmps11
  go_wp2_with fail
  refine (CG.out _).mono ?_; rintro e wa ⟨rfl, hb⟩; have hz := hb.size; (try simp only [World.size_alloc, World.heap_drewN, World.size_drew, World.size_setCell] at hz)
  have HB1 := Lib.hid (show Below w.heap.size w wa from bel)
  have z_rr : (w.heap.size + 1) < wa.heap.size := (by omega); replace rr : wa.rangeAt (w.heap.size + 1) 0 [.int .i64 0, .int .i64 0, .int .i64 0, .int .i64 0] := rng; replace f_rr : Free wa (w.heap.size + 1) := fre
  clear hb
  replace rr_0 := range_cell rr 0 rfl; replace rr_1 := range_cell rr 1 rfl; replace rr_2 := range_cell rr 2 rfl; replace rr_3 := range_cell rr 3 rfl
  replace rr_f0 := f_rr 0; replace rr_f1 := f_rr 1; replace rr_f2 := f_rr 2; replace rr_f3 := f_rr 3
  have := HB1.out
  go_wp2
  refine bodyPost_ret (ret_cell_tmp Try.results11 (w.heap.size + 1) [.int .i64 0, .int .i64 0, .int .i64 0, .int .i64 0] _ rfl rng Try.underlying23 rfl (by kernel_rfl)) rfl ⟨rfl, ?_⟩; exact bel
set_option maxHeartbeats 1000000 in
theorem actQuiet_out (n i m c p t : Int) (hg : Act.good n i m c p = true) (ht : ¬ (0 ≤ t ∧ t ≤ 1000)) (w : World) :
    Calls Try.prog 11 #[.int .i64 n, .agg #[.int .i64 i, .int .i64 m, .int .i64 c, .int .i64 p], .int .i64 t] w fun e w' => e = .returned (.tuple #[.agg #[.int .i64 0, .int .i64 0, .int .i64 0, .int .i64 0], .int .i64 2]) ∧ Below w.heap.size w w' := by
  have CG := Lib.hid (fun w => actTick_any n ⟨i, m, c, p⟩ hg w)
  generalize Act.tick n ⟨i, m, c, p⟩ = z at *
  obtain ⟨zi, zm, zc, zp⟩ := z
  rw [show Act.val ⟨zi, zm, zc, zp⟩ = .agg #[.int .i64 zi, .int .i64 zm, .int .i64 zc, .int .i64 zp] from rfl] at CG
  clear hg
  by_cases h0 : t < 0
  all_goals
    go_enter Try.func11, Try.ntmps11
    go_wp2_with fail
    refine (CG.out _).mono ?_; rintro e wa ⟨rfl, hb⟩; have hz := hb.size; (try simp only [World.size_alloc, World.heap_drewN, World.size_drew, World.size_setCell] at hz)
    have HB1 := Lib.hid (show Below w.heap.size w wa from bel)
    have z_rr : (w.heap.size + 1) < wa.heap.size := (by omega); replace rr : wa.rangeAt (w.heap.size + 1) 0 [.int .i64 0, .int .i64 0, .int .i64 0, .int .i64 0] := rng; replace f_rr : Free wa (w.heap.size + 1) := fre
    clear hb
    replace rr_0 := range_cell rr 0 rfl; replace rr_1 := range_cell rr 1 rfl; replace rr_2 := range_cell rr 2 rfl; replace rr_3 := range_cell rr 3 rfl
    replace rr_f0 := f_rr 0; replace rr_f1 := f_rr 1; replace rr_f2 := f_rr 2; replace rr_f3 := f_rr 3
    have := HB1.out
    go_wp2
    refine bodyPost_ret (ret_cell_tmp Try.results11 (w.heap.size + 1) [.int .i64 0, .int .i64 0, .int .i64 0, .int .i64 0] _ rfl rng Try.underlying23 rfl (by kernel_rfl)) rfl ⟨rfl, ?_⟩; exact bel
set_option maxHeartbeats 1000000 in
theorem actQuiet_yes (n i m c p : Int) (T : Nat) (hg : Act.good n i m c p = true) (ht : T ≤ 1000) (w : World) :
    Calls Try.prog 11 #[.int .i64 n, .agg #[.int .i64 i, .int .i64 m, .int .i64 c, .int .i64 p], .int .i64 T] w fun e w' => e = .returned (.tuple #[Act.val (Act.ticks n ⟨i, m, c, p⟩ T), .int .i64 0]) ∧ Below w.heap.size w w' := by
  have CG := Lib.hid (fun w => actTick_any n ⟨i, m, c, p⟩ hg w)
  generalize Act.tick n ⟨i, m, c, p⟩ = z at *
  obtain ⟨zi, zm, zc, zp⟩ := z
  rw [show Act.val ⟨zi, zm, zc, zp⟩ = .agg #[.int .i64 zi, .int .i64 zm, .int .i64 zc, .int .i64 zp] from rfl] at CG
  have HG := Lib.hid hg
  clear hg
  go_enter Try.func11, Try.ntmps11
  go_wp2_with fail
  refine (CG.out _).mono ?_; rintro e wa ⟨rfl, hb⟩; have hz := hb.size; (try simp only [World.size_alloc, World.heap_drewN, World.size_drew, World.size_setCell] at hz)
  have HB1 := Lib.hid (show Below w.heap.size w wa from bel)
  have z_rx : (w.heap.size) < wa.heap.size := (by omega); replace rx : wa.rangeAt (w.heap.size) 0 [.int .i64 i, .int .i64 m, .int .i64 c, .int .i64 p] := rng; replace f_rx : Free wa (w.heap.size) := fre
  have z_rr : (w.heap.size + 1) < wa.heap.size := (by omega); replace rr : wa.rangeAt (w.heap.size + 1) 0 [.int .i64 0, .int .i64 0, .int .i64 0, .int .i64 0] := rng; replace f_rr : Free wa (w.heap.size + 1) := fre
  have z_rn : (w.heap.size + 1 + 1) < wa.heap.size := (by omega); replace rn : wa.rangeAt (w.heap.size + 1 + 1) 0 [.int .i64 0, .int .i64 0, .int .i64 0, .int .i64 0] := rng
  clear hb
  go_wp2_with fail
  have HK : Hid (Act.KeptN w ⟨i, m, c, p⟩ (wa.alloc (.cells #[.int .i64 zi, .int .i64 zm, .int .i64 zc, .int .i64 zp] 23))) := by
    have := HB1.out
    exact ⟨(by simp; omega), bel, rng, fre, rng, fre, rng⟩
  clear rx rr f_rx f_rr HB1 CG
  go_loopw [30] (Act.KeptN_rel w n ⟨i, m, c, p⟩ T) (fun k _ => T - (intOf k).toNat)
  case atStart => exact ⟨0, by omega, rfl, HK.out⟩
  case round =>
    obtain ⟨K, hKT, rfl, hk⟩ := hrel
    obtain ⟨zw, hbel, kx, f_kx, kr, f_kr, kn⟩ := hk
    have HB := Lib.hid hbel
    clear hbel
    have hg := (Act.ticks_good (x := ⟨i, m, c, p⟩) HG.out K).2
    have e1 : Act.ticks n ⟨i, m, c, p⟩ (K + 1) = Act.tick n (Act.ticks n ⟨i, m, c, p⟩ K) := rfl
    by_cases hlt : K < T
    · have CT := Lib.hid (fun w => actTick_any n (Act.ticks n ⟨i, m, c, p⟩ K) hg w)
      rw [← e1] at CT
      clear e1 hg
      generalize hzz : Act.ticks n ⟨i, m, c, p⟩ (K + 1) = z at *
      generalize Act.ticks n ⟨i, m, c, p⟩ K = y at *
      obtain ⟨yi, ym, yc, yp⟩ := y
      obtain ⟨xi, xm, xc, xp⟩ := z
      rw [show Act.val ⟨xi, xm, xc, xp⟩ = .agg #[.int .i64 xi, .int .i64 xm, .int .i64 xc, .int .i64 xp] from rfl] at CT
      dsimp only at kx CT
      have HZ := Lib.hid hzz
      clear hzz
      replace kx_0 := range_cell kx 0 rfl; replace kx_1 := range_cell kx 1 rfl; replace kx_2 := range_cell kx 2 rfl; replace kx_3 := range_cell kx 3 rfl
      replace kx_f0 := f_kx 0; replace kx_f1 := f_kx 1; replace kx_f2 := f_kx 2; replace kx_f3 := f_kx 3
      replace kn_0 := range_cell kn 0 rfl; replace kn_1 := range_cell kn 1 rfl; replace kn_2 := range_cell kn 2 rfl; replace kn_3 := range_cell kn 3 rfl
      go_wp2_with fail
      refine (CT.out _).mono ?_; rintro e w1 ⟨rfl, hb⟩; have hz := hb.size; (try simp only [World.size_alloc, World.heap_drewN, World.size_drew, World.size_setCell] at hz)
      have HB1 := Lib.hid (show Below w.heap.size w w1 from by have := HB.out; exact bel)
      have z_kx : (w.heap.size) < w1.heap.size := (by omega); replace kx : w1.rangeAt (w.heap.size) 0 [.int .i64 yi, .int .i64 ym, .int .i64 yc, .int .i64 yp] := rng; replace f_kx : Free w1 (w.heap.size) := fre
      have z_kr : (w.heap.size + 1) < w1.heap.size := (by omega); replace kr : w1.rangeAt (w.heap.size + 1) 0 [.int .i64 0, .int .i64 0, .int .i64 0, .int .i64 0] := rng; replace f_kr : Free w1 (w.heap.size + 1) := fre
      have z_kn : (w.heap.size + 1 + 1) < w1.heap.size := (by omega); replace kn : w1.rangeAt (w.heap.size + 1 + 1) 0 [.int .i64 0, .int .i64 0, .int .i64 0, .int .i64 0] := rng
      clear hb
      replace kx_0 := range_cell kx 0 rfl; replace kx_1 := range_cell kx 1 rfl; replace kx_2 := range_cell kx 2 rfl; replace kx_3 := range_cell kx 3 rfl
      replace kx_f0 := f_kx 0; replace kx_f1 := f_kx 1; replace kx_f2 := f_kx 2; replace kx_f3 := f_kx 3
      go_wp2
      go_roundw
      case rel =>
        refine ⟨K + 1, by omega, by go_num, ?_⟩
        rw [HZ.out]
        have := HB1.out
        exact ⟨(by simp; omega), bel, rng, fre, rng, fre, rng⟩
      case measure => simp [intOf]; omega
    · obtain rfl : K = T := by omega
      clear e1 hg
      replace kx_0 := range_cell kx 0 rfl; replace kx_1 := range_cell kx 1 rfl; replace kx_2 := range_cell kx 2 rfl; replace kx_3 := range_cell kx 3 rfl
      replace kx_f0 := f_kx 0; replace kx_f1 := f_kx 1; replace kx_f2 := f_kx 2; replace kx_f3 := f_kx 3
      replace kr_0 := range_cell kr 0 rfl; replace kr_1 := range_cell kr 1 rfl; replace kr_2 := range_cell kr 2 rfl; replace kr_3 := range_cell kr 3 rfl
      replace kr_f0 := f_kr 0; replace kr_f1 := f_kr 1; replace kr_f2 := f_kr 2; replace kr_f3 := f_kr 3
      have := HB.out
      go_wp2
      refine bodyPost_ret (ret_cell_tmp Try.results11 (w.heap.size + 1) [.int .i64 (Act.ticks n ⟨i, m, c, p⟩ K).i, .int .i64 (Act.ticks n ⟨i, m, c, p⟩ K).m, .int .i64 (Act.ticks n ⟨i, m, c, p⟩ K).c, .int .i64 (Act.ticks n ⟨i, m, c, p⟩ K).p] _ rfl rng Try.underlying23 rfl (by kernel_rfl)) rfl ⟨rfl, ?_⟩; exact bel
theorem actQuiet_any (n i m c p t : Int) (w : World) :
    Calls Try.prog 11 #[.int .i64 n, .agg #[.int .i64 i, .int .i64 m, .int .i64 c, .int .i64 p], .int .i64 t] w fun e w' => e = .returned (.tuple #[Act.val (Act.quiet n i m c p t), .int .i64 (Act.quietErr n i m c p t)]) ∧ Below w.heap.size w w' := by
  by_cases hg : Act.good n i m c p = true
  · by_cases ht : 0 ≤ t ∧ t ≤ 1000
    · obtain ⟨T, rfl⟩ := Int.eq_ofNat_of_zero_le ht.1
      rw [show Act.quiet n i m c p T = Act.ticks n ⟨i, m, c, p⟩ T by unfold Act.quiet; rw [if_pos ⟨hg, ht⟩]; rfl, show Act.quietErr n i m c p T = 0 by unfold Act.quietErr; rw [if_pos hg, if_pos ht]]
      exact actQuiet_yes n i m c p T hg (by omega) w
    · rw [show Act.quiet n i m c p t = Act.none by unfold Act.quiet; rw [if_neg (fun h => ht h.2)], show Act.quietErr n i m c p t = 2 by unfold Act.quietErr; rw [if_pos hg, if_neg ht]]
      exact actQuiet_out n i m c p t hg ht w
  · rw [show Act.quiet n i m c p t = Act.none by unfold Act.quiet; rw [if_neg (fun h => hg h.1)], show Act.quietErr n i m c p t = 1 by unfold Act.quietErr; rw [if_neg hg]]
    exact actQuiet_no n i m c p t (Bool.eq_false_iff.2 hg) w
theorem refTick_any (n : Int) (y : Act.Nd) (hg : Act.good n y.i y.m y.c y.p = true) (w : World) :
    Calls Try.prog 10 #[.int .i64 n, .agg #[.int .i64 y.i, .int .i64 y.m, .int .i64 y.c, .int .i64 y.p], .agg #[.int .i64 0, .int .i64 0, .int .i64 0, .int .i64 0]] w fun e w' => e = .returned (.tuple #[Act.val (Act.tick n y), .int .i64 0]) ∧ Below w.heap.size w w' := by
  have h := refStep_any n y.i y.m y.c y.p 0 0 0 0 (Act.heard_none n) w
  rw [show Act.next n y.i y.m y.c y.p 0 0 0 0 = Act.tick n y by unfold Act.next; rw [if_pos hg]; rfl, show Act.err n y.i y.m y.c y.p = 0 by unfold Act.err; rw [if_pos hg]] at h
  exact h
set_option maxHeartbeats 1000000 in
theorem refQuiet_no (n i m c p t : Int) (hg : Act.good n i m c p = false) (w : World) :
    Calls Try.prog 12 #[.int .i64 n, .agg #[.int .i64 i, .int .i64 m, .int .i64 c, .int .i64 p], .int .i64 t] w fun e w' => e = .returned (.tuple #[.agg #[.int .i64 0, .int .i64 0, .int .i64 0, .int .i64 0], .int .i64 1]) ∧ Below w.heap.size w w' := by
  have CG := Lib.hid (fun w => refStep_any n i m c p 0 0 0 0 (Act.heard_none n) w)
  rw [show Act.next n i m c p 0 0 0 0 = Act.none by unfold Act.next; rw [hg]; rfl, show Act.err n i m c p = 1 by unfold Act.err; rw [hg]; rfl, show Act.val Act.none = .agg #[.int .i64 0, .int .i64 0, .int .i64 0, .int .i64 0] from rfl] at CG
  clear hg
  go_enter Try.func12, Try.ntmps12
  go_wp2_with fail
  refine (CG.out _).mono ?_; rintro e wa ⟨rfl, hb⟩; have hz := hb.size; (try simp only [World.size_alloc, World.heap_drewN, World.size_drew, World.size_setCell] at hz)
  have HB1 := Lib.hid (show Below w.heap.size w wa from bel)
  have z_rr : (w.heap.size + 1) < wa.heap.size := (by omega); replace rr : wa.rangeAt (w.heap.size + 1) 0 [.int .i64 0, .int .i64 0, .int .i64 0, .int .i64 0] := rng; replace f_rr : Free wa (w.heap.size + 1) := fre
  clear hb
  replace rr_0 := range_cell rr 0 rfl; replace rr_1 := range_cell rr 1 rfl; replace rr_2 := range_cell rr 2 rfl; replace rr_3 := range_cell rr 3 rfl
  replace rr_f0 := f_rr 0; replace rr_f1 := f_rr 1; replace rr_f2 := f_rr 2; replace rr_f3 := f_rr 3
  have := HB1.out
  go_wp2
  refine bodyPost_ret (ret_cell_tmp Try.results12 (w.heap.size + 1) [.int .i64 0, .int .i64 0, .int .i64 0, .int .i64 0] _ rfl rng Try.underlying23 rfl (by kernel_rfl)) rfl ⟨rfl, ?_⟩; exact bel
set_option maxHeartbeats 1000000 in
theorem refQuiet_out (n i m c p t : Int) (hg : Act.good n i m c p = true) (ht : ¬ (0 ≤ t ∧ t ≤ 1000)) (w : World) :
    Calls Try.prog 12 #[.int .i64 n, .agg #[.int .i64 i, .int .i64 m, .int .i64 c, .int .i64 p], .int .i64 t] w fun e w' => e = .returned (.tuple #[.agg #[.int .i64 0, .int .i64 0, .int .i64 0, .int .i64 0], .int .i64 2]) ∧ Below w.heap.size w w' := by
  have CG := Lib.hid (fun w => refTick_any n ⟨i, m, c, p⟩ hg w)
  generalize Act.tick n ⟨i, m, c, p⟩ = z at *
  obtain ⟨zi, zm, zc, zp⟩ := z
  rw [show Act.val ⟨zi, zm, zc, zp⟩ = .agg #[.int .i64 zi, .int .i64 zm, .int .i64 zc, .int .i64 zp] from rfl] at CG
  clear hg
  by_cases h0 : t < 0
  all_goals
    go_enter Try.func12, Try.ntmps12
    go_wp2_with fail
    refine (CG.out _).mono ?_; rintro e wa ⟨rfl, hb⟩; have hz := hb.size; (try simp only [World.size_alloc, World.heap_drewN, World.size_drew, World.size_setCell] at hz)
    have HB1 := Lib.hid (show Below w.heap.size w wa from bel)
    have z_rr : (w.heap.size + 1) < wa.heap.size := (by omega); replace rr : wa.rangeAt (w.heap.size + 1) 0 [.int .i64 0, .int .i64 0, .int .i64 0, .int .i64 0] := rng; replace f_rr : Free wa (w.heap.size + 1) := fre
    clear hb
    replace rr_0 := range_cell rr 0 rfl; replace rr_1 := range_cell rr 1 rfl; replace rr_2 := range_cell rr 2 rfl; replace rr_3 := range_cell rr 3 rfl
    replace rr_f0 := f_rr 0; replace rr_f1 := f_rr 1; replace rr_f2 := f_rr 2; replace rr_f3 := f_rr 3
    have := HB1.out
    go_wp2
    refine bodyPost_ret (ret_cell_tmp Try.results12 (w.heap.size + 1) [.int .i64 0, .int .i64 0, .int .i64 0, .int .i64 0] _ rfl rng Try.underlying23 rfl (by kernel_rfl)) rfl ⟨rfl, ?_⟩; exact bel
set_option maxHeartbeats 1000000 in
theorem refQuiet_yes (n i m c p : Int) (T : Nat) (hg : Act.good n i m c p = true) (ht : T ≤ 1000) (w : World) :
    Calls Try.prog 12 #[.int .i64 n, .agg #[.int .i64 i, .int .i64 m, .int .i64 c, .int .i64 p], .int .i64 T] w fun e w' => e = .returned (.tuple #[Act.val (Act.ticks n ⟨i, m, c, p⟩ T), .int .i64 0]) ∧ Below w.heap.size w w' := by
  have CG := Lib.hid (fun w => refTick_any n ⟨i, m, c, p⟩ hg w)
  generalize Act.tick n ⟨i, m, c, p⟩ = z at *
  obtain ⟨zi, zm, zc, zp⟩ := z
  rw [show Act.val ⟨zi, zm, zc, zp⟩ = .agg #[.int .i64 zi, .int .i64 zm, .int .i64 zc, .int .i64 zp] from rfl] at CG
  have HG := Lib.hid hg
  clear hg
  go_enter Try.func12, Try.ntmps12
  go_wp2_with fail
  refine (CG.out _).mono ?_; rintro e wa ⟨rfl, hb⟩; have hz := hb.size; (try simp only [World.size_alloc, World.heap_drewN, World.size_drew, World.size_setCell] at hz)
  have HB1 := Lib.hid (show Below w.heap.size w wa from bel)
  have z_rx : (w.heap.size) < wa.heap.size := (by omega); replace rx : wa.rangeAt (w.heap.size) 0 [.int .i64 i, .int .i64 m, .int .i64 c, .int .i64 p] := rng; replace f_rx : Free wa (w.heap.size) := fre
  have z_rr : (w.heap.size + 1) < wa.heap.size := (by omega); replace rr : wa.rangeAt (w.heap.size + 1) 0 [.int .i64 0, .int .i64 0, .int .i64 0, .int .i64 0] := rng; replace f_rr : Free wa (w.heap.size + 1) := fre
  clear hb
  go_wp2_with fail
  have HK : Hid (Act.Kept w ⟨i, m, c, p⟩ (wa.alloc (.cells #[.int .i64 zi, .int .i64 zm, .int .i64 zc, .int .i64 zp] 23))) := by
    have := HB1.out
    exact ⟨(by simp; omega), bel, rng, fre, rng, fre⟩
  clear rx rr f_rx f_rr HB1 CG
  go_loopw [10] (Act.Kept_rel w n ⟨i, m, c, p⟩ T) (fun k _ => T - (intOf k).toNat)
  case atStart => exact ⟨0, by omega, rfl, HK.out⟩
  case round =>
    obtain ⟨K, hKT, rfl, hk⟩ := hrel
    obtain ⟨zw, hbel, kx, f_kx, kr, f_kr⟩ := hk
    have HB := Lib.hid hbel
    clear hbel
    have hg := (Act.ticks_good (x := ⟨i, m, c, p⟩) HG.out K).2
    have e1 : Act.ticks n ⟨i, m, c, p⟩ (K + 1) = Act.tick n (Act.ticks n ⟨i, m, c, p⟩ K) := rfl
    by_cases hlt : K < T
    · have CT := Lib.hid (fun w => refTick_any n (Act.ticks n ⟨i, m, c, p⟩ K) hg w)
      rw [← e1] at CT
      clear e1 hg
      generalize hzz : Act.ticks n ⟨i, m, c, p⟩ (K + 1) = z at *
      generalize Act.ticks n ⟨i, m, c, p⟩ K = y at *
      obtain ⟨yi, ym, yc, yp⟩ := y
      obtain ⟨xi, xm, xc, xp⟩ := z
      rw [show Act.val ⟨xi, xm, xc, xp⟩ = .agg #[.int .i64 xi, .int .i64 xm, .int .i64 xc, .int .i64 xp] from rfl] at CT
      dsimp only at kx CT
      have HZ := Lib.hid hzz
      clear hzz
      replace kx_0 := range_cell kx 0 rfl; replace kx_1 := range_cell kx 1 rfl; replace kx_2 := range_cell kx 2 rfl; replace kx_3 := range_cell kx 3 rfl
      replace kx_f0 := f_kx 0; replace kx_f1 := f_kx 1; replace kx_f2 := f_kx 2; replace kx_f3 := f_kx 3
      go_wp2_with fail
      refine (CT.out _).mono ?_; rintro e w1 ⟨rfl, hb⟩; have hz := hb.size; (try simp only [World.size_alloc, World.heap_drewN, World.size_drew, World.size_setCell] at hz)
      have HB1 := Lib.hid (show Below w.heap.size w w1 from by have := HB.out; exact bel)
      have z_kx : (w.heap.size) < w1.heap.size := (by omega); replace kx : w1.rangeAt (w.heap.size) 0 [.int .i64 yi, .int .i64 ym, .int .i64 yc, .int .i64 yp] := rng; replace f_kx : Free w1 (w.heap.size) := fre
      have z_kr : (w.heap.size + 1) < w1.heap.size := (by omega); replace kr : w1.rangeAt (w.heap.size + 1) 0 [.int .i64 0, .int .i64 0, .int .i64 0, .int .i64 0] := rng; replace f_kr : Free w1 (w.heap.size + 1) := fre
      clear hb
      replace kx_0 := range_cell kx 0 rfl; replace kx_1 := range_cell kx 1 rfl; replace kx_2 := range_cell kx 2 rfl; replace kx_3 := range_cell kx 3 rfl
      replace kx_f0 := f_kx 0; replace kx_f1 := f_kx 1; replace kx_f2 := f_kx 2; replace kx_f3 := f_kx 3
      go_wp2
      go_roundw
      case rel =>
        refine ⟨K + 1, by omega, by go_num, ?_⟩
        rw [HZ.out]
        have := HB1.out
        exact ⟨(by simp; omega), bel, rng, fre, rng, fre⟩
      case measure => simp [intOf]; omega
    · obtain rfl : K = T := by omega
      clear e1 hg
      replace kx_0 := range_cell kx 0 rfl; replace kx_1 := range_cell kx 1 rfl; replace kx_2 := range_cell kx 2 rfl; replace kx_3 := range_cell kx 3 rfl
      replace kx_f0 := f_kx 0; replace kx_f1 := f_kx 1; replace kx_f2 := f_kx 2; replace kx_f3 := f_kx 3
      replace kr_0 := range_cell kr 0 rfl; replace kr_1 := range_cell kr 1 rfl; replace kr_2 := range_cell kr 2 rfl; replace kr_3 := range_cell kr 3 rfl
      replace kr_f0 := f_kr 0; replace kr_f1 := f_kr 1; replace kr_f2 := f_kr 2; replace kr_f3 := f_kr 3
      have := HB.out
      go_wp2
      refine bodyPost_ret (ret_cell_tmp Try.results12 (w.heap.size + 1) [.int .i64 (Act.ticks n ⟨i, m, c, p⟩ K).i, .int .i64 (Act.ticks n ⟨i, m, c, p⟩ K).m, .int .i64 (Act.ticks n ⟨i, m, c, p⟩ K).c, .int .i64 (Act.ticks n ⟨i, m, c, p⟩ K).p] _ rfl rng Try.underlying23 rfl (by kernel_rfl)) rfl ⟨rfl, ?_⟩; exact bel
theorem refQuiet_any (n i m c p t : Int) (w : World) :
    Calls Try.prog 12 #[.int .i64 n, .agg #[.int .i64 i, .int .i64 m, .int .i64 c, .int .i64 p], .int .i64 t] w fun e w' => e = .returned (.tuple #[Act.val (Act.quiet n i m c p t), .int .i64 (Act.quietErr n i m c p t)]) ∧ Below w.heap.size w w' := by
  by_cases hg : Act.good n i m c p = true
  · by_cases ht : 0 ≤ t ∧ t ≤ 1000
    · obtain ⟨T, rfl⟩ := Int.eq_ofNat_of_zero_le ht.1
      rw [show Act.quiet n i m c p T = Act.ticks n ⟨i, m, c, p⟩ T by unfold Act.quiet; rw [if_pos ⟨hg, ht⟩]; rfl, show Act.quietErr n i m c p T = 0 by unfold Act.quietErr; rw [if_pos hg, if_pos ht]]
      exact refQuiet_yes n i m c p T hg (by omega) w
    · rw [show Act.quiet n i m c p t = Act.none by unfold Act.quiet; rw [if_neg (fun h => ht h.2)], show Act.quietErr n i m c p t = 2 by unfold Act.quietErr; rw [if_pos hg, if_neg ht]]
      exact refQuiet_out n i m c p t hg ht w
  · rw [show Act.quiet n i m c p t = Act.none by unfold Act.quiet; rw [if_neg (fun h => hg h.1)], show Act.quietErr n i m c p t = 1 by unfold Act.quietErr; rw [if_neg hg]]
    exact refQuiet_no n i m c p t (Bool.eq_false_iff.2 hg) w
end Go.Proofs.Ytjkdmnodamcjnaa
