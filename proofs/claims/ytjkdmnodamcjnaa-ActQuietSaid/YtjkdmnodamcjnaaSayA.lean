
import Derived.Test.YtjkdmnodamcjnaaRows
import Derived.Test.YtjkdmnodamcjnaaSay0
import Derived.Test.YtjkdmnodamcjnaaNodeA
import Derived.Test.YtjkdmnodamcjnaaConfB
namespace Go.Proofs.Ytjkdmnodamcjnaa
set_option linter.unusedVariables false
set_option linter.unusedSimpArgs false
open Go.ChangeShapes Go.WideShapes Go.RowKit

theorem left_any (t c : Int) (ht : 0 ≤ t ∧ t ≤ 1073741824) (hc : 0 ≤ c ∧ c ≤ 1073741824) (w : World) :
    Calls Try.prog 38 #[.int .i64 t, .int .i64 c] w fun e w' => e = .returned (.int .i64 (max 0 (t - c))) ∧ w = w' := by
  go_enter Try.func38, Try.ntmps38
  go_wp2
  all_goals
    go_ret
    exact ⟨ret_int (by omega), rfl⟩
theorem due_no (n i m c p : Int) (h : Node.right n i m c p = false) (w : World) :
    Calls Try.prog 25 #[.int .i64 n, .agg #[.int .i64 i, .int .i64 m, .int .i64 c, .int .i64 p]] w fun e w' => e = .returned (.int .i64 (-1)) ∧ Below w.heap.size w w' := by
  have H := Lib.hid h
  clear h
  go_enter Try.func25, Try.ntmps25
  go_wp2_with fail
  refine (nright_any _ _ _ _ _ _).mono ?_; rintro e w1 ⟨rfl, hb⟩; have hz := hb.size; (try simp only [World.size_alloc, World.heap_drewN, World.size_drew, World.size_setCell] at hz)
  rw [H.out]
  go_wp2
  go_ret
  exact ⟨rfl, bel⟩
theorem due_0 (n i c p : Int) (h : Node.right n i 0 c p = true) (w : World) :
    Calls Try.prog 25 #[.int .i64 n, .agg #[.int .i64 i, .int .i64 0, .int .i64 c, .int .i64 p]] w fun e w' => e = .returned (.int .i64 (-1)) ∧ Below w.heap.size w w' := by
  have H := Lib.hid h
  clear h
  go_enter Try.func25, Try.ntmps25
  go_wp2_with fail
  refine (nright_any _ _ _ _ _ _).mono ?_; rintro e w1 ⟨rfl, hb⟩; have hz := hb.size; (try simp only [World.size_alloc, World.heap_drewN, World.size_drew, World.size_setCell] at hz)
  rw [H.out]
  have z_rx : (w.heap.size) < w1.heap.size := (by omega); replace rx : w1.rangeAt (w.heap.size) 0 [.int .i64 i, .int .i64 0, .int .i64 c, .int .i64 p] := rng
  replace rx_0 := range_cell rx 0 rfl; replace rx_1 := range_cell rx 1 rfl; replace rx_2 := range_cell rx 2 rfl; replace rx_3 := range_cell rx 3 rfl
  go_wp2
  go_ret
  exact ⟨rfl, bel⟩
theorem due_1 (n i c p : Int) (h : Node.right n i 1 c p = true) (w : World) :
    Calls Try.prog 25 #[.int .i64 n, .agg #[.int .i64 i, .int .i64 1, .int .i64 c, .int .i64 p]] w fun e w' => e = .returned (.int .i64 (max 0 (4 * n + 1 + i - c))) ∧ Below w.heap.size w w' := by
  have hr := Say.right_of h
  have H := Lib.hid h
  have E := Lib.hid (Conf.own_yes (n := n) (i := i) (f := 4) (Conf.right_spec.2 (by omega)) (by omega))
  clear h
  go_enter Try.func25, Try.ntmps25
  go_wp2_with fail
  refine (nright_any _ _ _ _ _ _).mono ?_; rintro e w1 ⟨rfl, hb⟩; have hz := hb.size; (try simp only [World.size_alloc, World.heap_drewN, World.size_drew, World.size_setCell] at hz)
  rw [H.out]
  have z_rx : (w.heap.size) < w1.heap.size := (by omega); replace rx : w1.rangeAt (w.heap.size) 0 [.int .i64 i, .int .i64 1, .int .i64 c, .int .i64 p] := rng
  replace rx_0 := range_cell rx 0 rfl; replace rx_1 := range_cell rx 1 rfl; replace rx_2 := range_cell rx 2 rfl; replace rx_3 := range_cell rx 3 rfl
  have HB1 := Lib.hid (show Below w.heap.size w w1 from bel)
  clear hb
  go_wp2_with fail
  refine (cListen_any _ _ _).mono ?_; rintro e w2 ⟨rfl, hb⟩; have hz := hb.size; (try simp only [World.size_alloc, World.heap_drewN, World.size_drew, World.size_setCell] at hz)
  rw [E.out]
  have HB2 := Lib.hid (show Below w.heap.size w w2 from by have := HB1.out; exact bel)
  have z_rx : (w.heap.size) < w2.heap.size := (by omega); replace rx : w2.rangeAt (w.heap.size) 0 [.int .i64 i, .int .i64 1, .int .i64 c, .int .i64 p] := rng
  replace rx_0 := range_cell rx 0 rfl; replace rx_1 := range_cell rx 1 rfl; replace rx_2 := range_cell rx 2 rfl; replace rx_3 := range_cell rx 3 rfl
  clear hb
  go_wp2_with fail
  refine (left_any _ _ (by omega) (by omega) _).mono ?_; rintro e w' ⟨rfl, rfl⟩
  have := HB2.out
  go_wp2
  go_ret
  exact ⟨rfl, bel⟩
theorem due_2 (n i c p : Int) (h : Node.right n i 2 c p = true) (w : World) :
    Calls Try.prog 25 #[.int .i64 n, .agg #[.int .i64 i, .int .i64 2, .int .i64 c, .int .i64 p]] w fun e w' => e = .returned (.int .i64 (max 0 (2 * n + 1 + i - c))) ∧ Below w.heap.size w w' := by
  have hr := Say.right_of h
  have H := Lib.hid h
  have E := Lib.hid (Conf.own_yes (n := n) (i := i) (f := 2) (Conf.right_spec.2 (by omega)) (by omega))
  clear h
  go_enter Try.func25, Try.ntmps25
  go_wp2_with fail
  refine (nright_any _ _ _ _ _ _).mono ?_; rintro e w1 ⟨rfl, hb⟩; have hz := hb.size; (try simp only [World.size_alloc, World.heap_drewN, World.size_drew, World.size_setCell] at hz)
  rw [H.out]
  have z_rx : (w.heap.size) < w1.heap.size := (by omega); replace rx : w1.rangeAt (w.heap.size) 0 [.int .i64 i, .int .i64 2, .int .i64 c, .int .i64 p] := rng
  replace rx_0 := range_cell rx 0 rfl; replace rx_1 := range_cell rx 1 rfl; replace rx_2 := range_cell rx 2 rfl; replace rx_3 := range_cell rx 3 rfl
  have HB1 := Lib.hid (show Below w.heap.size w w1 from bel)
  clear hb
  go_wp2_with fail
  refine (cCold_any _ _ _).mono ?_; rintro e w2 ⟨rfl, hb⟩; have hz := hb.size; (try simp only [World.size_alloc, World.heap_drewN, World.size_drew, World.size_setCell] at hz)
  rw [E.out]
  have HB2 := Lib.hid (show Below w.heap.size w w2 from by have := HB1.out; exact bel)
  have z_rx : (w.heap.size) < w2.heap.size := (by omega); replace rx : w2.rangeAt (w.heap.size) 0 [.int .i64 i, .int .i64 2, .int .i64 c, .int .i64 p] := rng
  replace rx_0 := range_cell rx 0 rfl; replace rx_1 := range_cell rx 1 rfl; replace rx_2 := range_cell rx 2 rfl; replace rx_3 := range_cell rx 3 rfl
  clear hb
  go_wp2_with fail
  refine (left_any _ _ (by omega) (by omega) _).mono ?_; rintro e w' ⟨rfl, rfl⟩
  have := HB2.out
  go_wp2
  go_ret
  exact ⟨rfl, bel⟩
theorem due_3 (n i c p : Int) (h : Node.right n i 3 c p = true) (w : World) :
    Calls Try.prog 25 #[.int .i64 n, .agg #[.int .i64 i, .int .i64 3, .int .i64 c, .int .i64 p]] w fun e w' => e = .returned (.int .i64 ((i - p) % n)) ∧ Below w.heap.size w w' := by
  have hr := Say.right_of h
  have H := Lib.hid h
  clear h
  go_enter Try.func25, Try.ntmps25
  go_wp2_with fail
  refine (nright_any _ _ _ _ _ _).mono ?_; rintro e w1 ⟨rfl, hb⟩; have hz := hb.size; (try simp only [World.size_alloc, World.heap_drewN, World.size_drew, World.size_setCell] at hz)
  rw [H.out]
  have z_rx : (w.heap.size) < w1.heap.size := (by omega); replace rx : w1.rangeAt (w.heap.size) 0 [.int .i64 i, .int .i64 3, .int .i64 c, .int .i64 p] := rng
  replace rx_0 := range_cell rx 0 rfl; replace rx_1 := range_cell rx 1 rfl; replace rx_2 := range_cell rx 2 rfl; replace rx_3 := range_cell rx 3 rfl
  have HB1 := Lib.hid (show Below w.heap.size w w1 from bel)
  clear hb
  go_wp2_with fail
  refine (ahead_any _ _ _ (by omega) (by omega) (by omega) (by omega) (by omega) (by omega) _).mono ?_; rintro e w' ⟨rfl, rfl⟩
  have := HB1.out
  go_wp2
  go_ret
  exact ⟨rfl, bel⟩
theorem due_any (n i m c p : Int) (w : World) :
    Calls Try.prog 25 #[.int .i64 n, .agg #[.int .i64 i, .int .i64 m, .int .i64 c, .int .i64 p]] w fun e w' => e = .returned (.int .i64 (Say.due n i m c p)) ∧ Below w.heap.size w w' := by
  by_cases h : Node.right n i m c p = true
  · have hr := Say.right_of h
    rw [Say.due_yes h]
    have hm : m = 0 ∨ m = 1 ∨ m = 2 ∨ m = 3 := by omega
    rcases hm with rfl | rfl | rfl | rfl
    · exact due_0 n i c p h w
    · exact due_1 n i c p h w
    · exact due_2 n i c p h w
    · exact due_3 n i c p h w
  · have h := Bool.eq_false_iff.2 h
    rw [Say.due_no h]
    exact due_no n i m c p h w
theorem sayOf_any (n i m c p : Int) (w : World) :
    Calls Try.prog 14 #[.int .i64 n, .agg #[.int .i64 i, .int .i64 m, .int .i64 c, .int .i64 p]] w fun e w' => e = .returned (.tuple #[.agg #[.int .i64 (Say.kind n i m c p), .int .i64 (Say.id_ n i m c p)], .int .i64 (Say.err n i m c p)]) ∧ Below w.heap.size w w' := by
  by_cases h : Node.right n i m c p = true
  · have hr := Say.right_of h
    by_cases hd : Say.due n i m c p = 0
    · obtain ⟨e1, e2, e3⟩ := Say.yes h hd
      rw [e1, e2, e3]
      clear e1 e2 e3
      have H := Lib.hid h
      have D := Lib.hid hd
      clear h hd
      have D2 := Lib.hid (fun w => due_any n i m c p w)
      rw [D.out] at D2
      by_cases hm : m = 3
      · subst hm
        rw [if_pos rfl]
        go_enter Try.func14, Try.ntmps14
        go_wp2_with fail
        refine (nright_any _ _ _ _ _ _).mono ?_; rintro e w1 ⟨rfl, hb⟩; have hz := hb.size; (try simp only [World.size_alloc, World.heap_drewN, World.size_drew, World.size_setCell] at hz)
        rw [H.out]
        have z_rx : (w.heap.size) < w1.heap.size := (by omega); replace rx : w1.rangeAt (w.heap.size) 0 [.int .i64 i, .int .i64 3, .int .i64 c, .int .i64 p] := rng
        have z_rf : (w.heap.size + 1) < w1.heap.size := (by omega); replace rf : w1.rangeAt (w.heap.size + 1) 0 [.int .i64 0, .int .i64 0] := rng; replace f_rf : Free w1 (w.heap.size + 1) := fre
        replace rx_0 := range_cell rx 0 rfl; replace rx_1 := range_cell rx 1 rfl; replace rx_2 := range_cell rx 2 rfl; replace rx_3 := range_cell rx 3 rfl
        have HB1 := Lib.hid (show Below w.heap.size w w1 from bel)
        clear hb
        go_wp2_with fail
        refine (D2.out _).mono ?_; rintro e w2 ⟨rfl, hb⟩; have hz := hb.size; (try simp only [World.size_alloc, World.heap_drewN, World.size_drew, World.size_setCell] at hz)
        have HB2 := Lib.hid (show Below w.heap.size w w2 from by have := HB1.out; exact bel)
        have z_rx : (w.heap.size) < w2.heap.size := (by omega); replace rx : w2.rangeAt (w.heap.size) 0 [.int .i64 i, .int .i64 3, .int .i64 c, .int .i64 p] := rng
        have z_rf : (w.heap.size + 1) < w2.heap.size := (by omega); replace rf : w2.rangeAt (w.heap.size + 1) 0 [.int .i64 0, .int .i64 0] := rng; replace f_rf : Free w2 (w.heap.size + 1) := fre
        replace rx_0 := range_cell rx 0 rfl; replace rx_1 := range_cell rx 1 rfl; replace rx_2 := range_cell rx 2 rfl; replace rx_3 := range_cell rx 3 rfl
        have rf_0 := range_cell rf 0 rfl; have rf_1 := range_cell rf 1 rfl
        have rf_f0 := f_rf 0; have rf_f1 := f_rf 1
        clear hb
        have := HB2.out
        go_wp2
        refine bodyPost_ret (ret_cell_tmp Try.results14 (w.heap.size + 1) [.int .i64 2, .int .i64 i] _ rfl rng Try.underlying25 rfl (by kernel_rfl)) rfl ⟨rfl, ?_⟩; exact bel
      · rw [if_neg hm]
        have hm2 : (m == 3) = false := by simp [hm]
        clear hm
        go_enter Try.func14, Try.ntmps14
        go_wp2_with fail
        refine (nright_any _ _ _ _ _ _).mono ?_; rintro e w1 ⟨rfl, hb⟩; have hz := hb.size; (try simp only [World.size_alloc, World.heap_drewN, World.size_drew, World.size_setCell] at hz)
        rw [H.out]
        have z_rx : (w.heap.size) < w1.heap.size := (by omega); replace rx : w1.rangeAt (w.heap.size) 0 [.int .i64 i, .int .i64 m, .int .i64 c, .int .i64 p] := rng
        have z_rf : (w.heap.size + 1) < w1.heap.size := (by omega); replace rf : w1.rangeAt (w.heap.size + 1) 0 [.int .i64 0, .int .i64 0] := rng; replace f_rf : Free w1 (w.heap.size + 1) := fre
        replace rx_0 := range_cell rx 0 rfl; replace rx_1 := range_cell rx 1 rfl; replace rx_2 := range_cell rx 2 rfl; replace rx_3 := range_cell rx 3 rfl
        have HB1 := Lib.hid (show Below w.heap.size w w1 from bel)
        clear hb
        go_wp2_with fail
        refine (D2.out _).mono ?_; rintro e w2 ⟨rfl, hb⟩; have hz := hb.size; (try simp only [World.size_alloc, World.heap_drewN, World.size_drew, World.size_setCell] at hz)
        have HB2 := Lib.hid (show Below w.heap.size w w2 from by have := HB1.out; exact bel)
        have z_rx : (w.heap.size) < w2.heap.size := (by omega); replace rx : w2.rangeAt (w.heap.size) 0 [.int .i64 i, .int .i64 m, .int .i64 c, .int .i64 p] := rng
        have z_rf : (w.heap.size + 1) < w2.heap.size := (by omega); replace rf : w2.rangeAt (w.heap.size + 1) 0 [.int .i64 0, .int .i64 0] := rng; replace f_rf : Free w2 (w.heap.size + 1) := fre
        replace rx_0 := range_cell rx 0 rfl; replace rx_1 := range_cell rx 1 rfl; replace rx_2 := range_cell rx 2 rfl; replace rx_3 := range_cell rx 3 rfl
        have rf_0 := range_cell rf 0 rfl; have rf_1 := range_cell rf 1 rfl
        have rf_f0 := f_rf 0; have rf_f1 := f_rf 1
        clear hb
        have := HB2.out
        go_wp2
        refine bodyPost_ret (ret_cell_tmp Try.results14 (w.heap.size + 1) [.int .i64 1, .int .i64 i] _ rfl rng Try.underlying25 rfl (by kernel_rfl)) rfl ⟨rfl, ?_⟩; exact bel
    · obtain ⟨e1, e2, e3⟩ := Say.later h hd
      rw [e1, e2, e3]
      clear e1 e2 e3
      have H := Lib.hid h
      have D2 := Lib.hid (fun w => due_any n i m c p w)
      have hd2 : (Say.due n i m c p != 0) = true := by simp [hd]
      generalize Say.due n i m c p = d at *
      clear h hd
      go_enter Try.func14, Try.ntmps14
      go_wp2_with fail
      refine (nright_any _ _ _ _ _ _).mono ?_; rintro e w1 ⟨rfl, hb⟩; have hz := hb.size; (try simp only [World.size_alloc, World.heap_drewN, World.size_drew, World.size_setCell] at hz)
      rw [H.out]
      have z_rx : (w.heap.size) < w1.heap.size := (by omega); replace rx : w1.rangeAt (w.heap.size) 0 [.int .i64 i, .int .i64 m, .int .i64 c, .int .i64 p] := rng
      have z_rf : (w.heap.size + 1) < w1.heap.size := (by omega); replace rf : w1.rangeAt (w.heap.size + 1) 0 [.int .i64 0, .int .i64 0] := rng; replace f_rf : Free w1 (w.heap.size + 1) := fre
      replace rx_0 := range_cell rx 0 rfl; replace rx_1 := range_cell rx 1 rfl; replace rx_2 := range_cell rx 2 rfl; replace rx_3 := range_cell rx 3 rfl
      have HB1 := Lib.hid (show Below w.heap.size w w1 from bel)
      clear hb
      go_wp2_with fail
      refine (D2.out _).mono ?_; rintro e w2 ⟨rfl, hb⟩; have hz := hb.size; (try simp only [World.size_alloc, World.heap_drewN, World.size_drew, World.size_setCell] at hz)
      have HB2 := Lib.hid (show Below w.heap.size w w2 from by have := HB1.out; exact bel)
      have z_rf : (w.heap.size + 1) < w2.heap.size := (by omega); replace rf : w2.rangeAt (w.heap.size + 1) 0 [.int .i64 0, .int .i64 0] := rng; replace f_rf : Free w2 (w.heap.size + 1) := fre
      have rf_0 := range_cell rf 0 rfl; have rf_1 := range_cell rf 1 rfl
      have rf_f0 := f_rf 0; have rf_f1 := f_rf 1
      clear hb
      have := HB2.out
      go_wp2
      refine bodyPost_ret (ret_cell_tmp Try.results14 (w.heap.size + 1) [.int .i64 0, .int .i64 0] _ rfl rng Try.underlying25 rfl (by kernel_rfl)) rfl ⟨rfl, ?_⟩; exact bel
  · have h := Bool.eq_false_iff.2 h
    obtain ⟨e1, e2, e3⟩ := Say.no h
    rw [e1, e2, e3]
    have H := Lib.hid h
    clear h e1 e2 e3
    go_enter Try.func14, Try.ntmps14
    go_wp2_with fail
    refine (nright_any _ _ _ _ _ _).mono ?_; rintro e w1 ⟨rfl, hb⟩; have hz := hb.size; (try simp only [World.size_alloc, World.heap_drewN, World.size_drew, World.size_setCell] at hz)
    rw [H.out]
    have z_rf : (w.heap.size + 1) < w1.heap.size := (by omega); replace rf : w1.rangeAt (w.heap.size + 1) 0 [.int .i64 0, .int .i64 0] := rng; replace f_rf : Free w1 (w.heap.size + 1) := fre
    have rf_0 := range_cell rf 0 rfl; have rf_1 := range_cell rf 1 rfl
    have rf_f0 := f_rf 0; have rf_f1 := f_rf 1
    go_wp2
    refine bodyPost_ret (ret_cell_tmp Try.results14 (w.heap.size + 1) [.int .i64 0, .int .i64 0] _ rfl rng Try.underlying25 rfl (by kernel_rfl)) rfl ⟨rfl, ?_⟩; exact bel
end Go.Proofs.Ytjkdmnodamcjnaa
