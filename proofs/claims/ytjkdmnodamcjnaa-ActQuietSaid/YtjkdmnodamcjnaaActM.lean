
import Derived.Test.YtjkdmnodamcjnaaRows
import Derived.Test.YtjkdmnodamcjnaaActH
import Derived.BigRegion
import Derived.Deep.Cut
import Derived.Deep.CutRange
namespace Go.Proofs.Ytjkdmnodamcjnaa
set_option linter.unusedVariables false
set_option linter.unusedSimpArgs false
open Go.ChangeShapes Go.WideShapes Go.RowKit

theorem actQuiet_at (n i c p : Int) (T : Nat) (y : Act.Nd) (hn : 3 ≤ n ∧ n ≤ 8) (hi : 0 ≤ i ∧ i < n) (hc : 0 ≤ c ∧ c < 8 * n) (hp : 0 ≤ p ∧ p < n) (hT : T ≤ 1000) (hy : Act.ticks n ⟨i, 3, c, p⟩ T = y) (w : World) :
    Calls Try.prog 11 #[.int .i64 n, .agg #[.int .i64 i, .int .i64 3, .int .i64 c, .int .i64 p], .int .i64 T] w fun e w' => e = .returned (.tuple #[Act.val y, .int .i64 0]) ∧ Below w.heap.size w w' := by
  have hg : Act.good n i 3 c p = true := by
    unfold Act.good
    rw [show Node.right n i 3 c p = true from decide_eq_true ⟨by omega, by omega, by omega, by omega, Or.inr (Or.inr ⟨rfl, by omega, by omega, by omega, by omega⟩)⟩]
    rfl
  rw [← hy]
  exact actQuiet_yes n i 3 c p T hg hT w
theorem Act.round_in {n i c p : Int} (hn : 3 ≤ n ∧ n ≤ 8) (hc : 0 ≤ c) (hp : 0 ≤ p ∧ p < n) (N : Nat) (hN : (N : Int) = n) (h : c + n < 8 * n) : Act.ticks n ⟨i, 3, c, p⟩ N = ⟨i, 3, c + n, p⟩ := by
  rw [Act.ticks_active hn hc hp N (by omega), hN, Int.add_emod_right, Int.emod_eq_of_lt hp.1 hp.2]
theorem Act.round_out {n i c p : Int} (hn : 3 ≤ n ∧ n ≤ 8) (hi : 0 ≤ i ∧ i < n) (hc : 0 ≤ c ∧ c < 8 * n) (hp : 0 ≤ p ∧ p < n) (N : Nat) (hN : (N : Int) = n) (h : 8 * n ≤ c + n) : ∃ r : Int, Act.ticks n ⟨i, 3, c, p⟩ N = ⟨i, 1, r, 0⟩ := by
  obtain ⟨s, hs⟩ : ∃ s : Nat, (s : Int) = 8 * n - c := ⟨(8 * n - c).toNat, by omega⟩
  obtain ⟨r, hr⟩ : ∃ r : Nat, N = s + r := ⟨N - s, by omega⟩
  refine ⟨r, ?_⟩
  rw [hr, Act.ticks_add, Act.ticks_ends hn hc.1 hp s (by omega) (by omega), Act.ticks_listens hn hi r (by omega)]
set_option maxRecDepth 20000 in
set_option maxHeartbeats 4000000 in
theorem actQuiet_walk (a : Nat) (ha : a < 256) (id : Nat) (hid : id < 256) (ps : Nat) (hps : ps < 256) (ct : Nat) (hct : ct < 65536) (w : World) :
    Calls Try.prog 5 #[.agg #[.int .u8 a, .int .u8 id, .int .u8 ps, .int .u16 ct]] w fun e w' => e = .returned (.bool true) ∧ Below w.heap.size w w' := by
  have g3 : (3 : Int) ≤ 3 + (a : Int) % 6 := by omega
  have g8 : 3 + (a : Int) % 6 ≤ 8 := by omega
  go_enter Try.func5, Try.ntmps5
  go_upto_region 2 with fail
  generalize hMM : 3 + (a : Int) % 6 = M at *
  clear hMM
  have i0 := Int.emod_nonneg (id : Int) (b := M) (by omega)
  have i1 := Int.emod_lt_of_pos (id : Int) (b := M) (by omega)
  have p0 := Int.emod_nonneg (ps : Int) (b := M) (by omega)
  have p1 := Int.emod_lt_of_pos (ps : Int) (b := M) (by omega)
  have c0 := Int.emod_nonneg (ct : Int) (b := 8 * M) (by omega)
  have c1 := Int.emod_lt_of_pos (ct : Int) (b := 8 * M) (by omega)
  have hmz : (M == 0) = false := by simp; omega
  have hmz8 : (8 * M == 0) = false := by simp; omega
  have t1 : Int.tmod (id : Int) M = (id : Int) % M := Int.tmod_eq_emod_of_nonneg (by omega)
  have t2 : Int.tmod (ps : Int) M = (ps : Int) % M := Int.tmod_eq_emod_of_nonneg (by omega)
  have t3 : Int.tmod (ct : Int) (8 * M) = (ct : Int) % (8 * M) := Int.tmod_eq_emod_of_nonneg (by omega)
  go_cut [4] from 14 to 30 (fun s4 wx => s4 = .pointer (some ⟨w.heap.size + 1, 0, none⟩) ∧ w.heap.size + 1 < wx.heap.size ∧ Below w.heap.size w wx ∧ wx.rangeAt (w.heap.size + 1) 0 [.int .i64 ((id : Int) % M), .int .i64 3, .int .i64 ((ct : Int) % (8 * M)), .int .i64 ((ps : Int) % M)] ∧ Free wx (w.heap.size + 1))
  case first =>
    go_region
    all_goals
      go_wp2_with fail
      go_meet
      exact ⟨rfl, by simp, bel, rng, fre⟩
  case rest =>
    obtain ⟨rfl, zx, hbel, rx, f_rx⟩ := hcut
    have HB0 := Lib.hid hbel
    clear hbel t1 t2 t3 hmz hmz8
    generalize (id : Int) % M = i at *
    generalize (ps : Int) % M = p at *
    generalize (ct : Int) % (8 * M) = c at *
    replace rx_0 := range_cell rx 0 rfl; replace rx_1 := range_cell rx 1 rfl; replace rx_2 := range_cell rx 2 rfl; replace rx_3 := range_cell rx 3 rfl
    replace rx_f0 := f_rx 0; replace rx_f1 := f_rx 1; replace rx_f2 := f_rx 2; replace rx_f3 := f_rx 3
    obtain ⟨N, hN⟩ : ∃ N : Nat, (N : Int) = M := ⟨M.toNat, by omega⟩
    obtain ⟨S, hS⟩ : ∃ S : Nat, (S : Int) = 8 * M - c := ⟨(8 * M - c).toNat, by omega⟩
    have D2 := Lib.hid (fun w => actQuiet_at M i c p S ⟨i, 1, 0, 0⟩ ⟨g3, g8⟩ ⟨i0, i1⟩ ⟨c0, c1⟩ ⟨p0, p1⟩ (by omega) (Act.ticks_ends ⟨g3, g8⟩ c0 ⟨p0, p1⟩ S (by omega) (by omega)) w)
    rw [hS, show Act.val ⟨i, 1, 0, 0⟩ = .agg #[.int .i64 i, .int .i64 1, .int .i64 0, .int .i64 0] from rfl] at D2
    by_cases hlt : 8 * M ≤ c + M
    · obtain ⟨r, hr⟩ := Act.round_out ⟨g3, g8⟩ ⟨i0, i1⟩ ⟨c0, c1⟩ ⟨p0, p1⟩ N hN hlt
      have D1 := Lib.hid (fun w => actQuiet_at M i c p N ⟨i, 1, r, 0⟩ ⟨g3, g8⟩ ⟨i0, i1⟩ ⟨c0, c1⟩ ⟨p0, p1⟩ (by omega) hr w)
      rw [hN, show Act.val ⟨i, 1, r, 0⟩ = .agg #[.int .i64 i, .int .i64 1, .int .i64 r, .int .i64 0] from rfl] at D1
      have q : decide (8 * M ≤ c + M) = true := decide_eq_true hlt
      clear hr hN hS
      go_wp2_with fail
      refine (D1.out _).mono ?_; rintro e wa ⟨rfl, hb⟩; have hz := hb.size; (try simp only [World.size_alloc, World.heap_drewN, World.size_drew, World.size_setCell] at hz)
      have HB1 := Lib.hid (show Below w.heap.size w wa from by have := HB0.out; exact bel)
      have z_rx : (w.heap.size + 1) < wa.heap.size := (by omega); replace rx : wa.rangeAt (w.heap.size + 1) 0 [.int .i64 i, .int .i64 3, .int .i64 c, .int .i64 p] := rng; replace f_rx : Free wa (w.heap.size + 1) := fre
      clear hb
      replace rx_0 := range_cell rx 0 rfl; replace rx_1 := range_cell rx 1 rfl; replace rx_2 := range_cell rx 2 rfl; replace rx_3 := range_cell rx 3 rfl
      replace rx_f0 := f_rx 0; replace rx_f1 := f_rx 1; replace rx_f2 := f_rx 2; replace rx_f3 := f_rx 3
      go_wp2_with fail
      refine (D2.out _).mono ?_; rintro e wb ⟨rfl, hb⟩; have hz := hb.size; (try simp only [World.size_alloc, World.heap_drewN, World.size_drew, World.size_setCell] at hz)
      have HB2 := Lib.hid (show Below w.heap.size w wb from by have := HB1.out; exact bel)
      have z_rx : (w.heap.size + 1) < wb.heap.size := (by omega); replace rx : wb.rangeAt (w.heap.size + 1) 0 [.int .i64 i, .int .i64 3, .int .i64 c, .int .i64 p] := rng; replace f_rx : Free wb (w.heap.size + 1) := fre
      have z_ry : (wa.heap.size) < wb.heap.size := (by omega); replace ry : wb.rangeAt (wa.heap.size) 0 [.int .i64 i, .int .i64 1, .int .i64 r, .int .i64 0] := rng
      clear hb
      replace rx_0 := range_cell rx 0 rfl; replace rx_1 := range_cell rx 1 rfl; replace rx_2 := range_cell rx 2 rfl; replace rx_3 := range_cell rx 3 rfl
      replace rx_f0 := f_rx 0; replace rx_f1 := f_rx 1; replace rx_f2 := f_rx 2; replace rx_f3 := f_rx 3
      replace ry_0 := range_cell ry 0 rfl; replace ry_1 := range_cell ry 1 rfl; replace ry_2 := range_cell ry 2 rfl; replace ry_3 := range_cell ry 3 rfl
      go_wp2_with fail
      refine (awake9_any _).mono ?_; rintro e wc ⟨rfl, hb⟩; have hz := hb.size; (try simp only [World.size_alloc, World.heap_drewN, World.size_drew, World.size_setCell] at hz)
      have HB3 := Lib.hid (show Below w.heap.size w wc from by have := HB2.out; exact bel)
      have z_ry : (wa.heap.size) < wc.heap.size := (by omega); replace ry : wc.rangeAt (wa.heap.size) 0 [.int .i64 i, .int .i64 1, .int .i64 r, .int .i64 0] := rng
      clear hb
      replace ry_0 := range_cell ry 0 rfl; replace ry_1 := range_cell ry 1 rfl; replace ry_2 := range_cell ry 2 rfl; replace ry_3 := range_cell ry 3 rfl
      have := HB3.out
      go_wp2
      go_ret
      exact ⟨rfl, bel⟩
    · have D1 := Lib.hid (fun w => actQuiet_at M i c p N ⟨i, 3, c + M, p⟩ ⟨g3, g8⟩ ⟨i0, i1⟩ ⟨c0, c1⟩ ⟨p0, p1⟩ (by omega) (Act.round_in ⟨g3, g8⟩ c0 ⟨p0, p1⟩ N hN (by omega)) w)
      rw [hN, show Act.val ⟨i, 3, c + M, p⟩ = .agg #[.int .i64 i, .int .i64 3, .int .i64 (c + M), .int .i64 p] from rfl] at D1
      have q : decide (8 * M ≤ c + M) = false := decide_eq_false hlt
      clear hN hS
      go_wp2_with fail
      refine (D1.out _).mono ?_; rintro e wa ⟨rfl, hb⟩; have hz := hb.size; (try simp only [World.size_alloc, World.heap_drewN, World.size_drew, World.size_setCell] at hz)
      have HB1 := Lib.hid (show Below w.heap.size w wa from by have := HB0.out; exact bel)
      have z_rx : (w.heap.size + 1) < wa.heap.size := (by omega); replace rx : wa.rangeAt (w.heap.size + 1) 0 [.int .i64 i, .int .i64 3, .int .i64 c, .int .i64 p] := rng; replace f_rx : Free wa (w.heap.size + 1) := fre
      clear hb
      replace rx_0 := range_cell rx 0 rfl; replace rx_1 := range_cell rx 1 rfl; replace rx_2 := range_cell rx 2 rfl; replace rx_3 := range_cell rx 3 rfl
      replace rx_f0 := f_rx 0; replace rx_f1 := f_rx 1; replace rx_f2 := f_rx 2; replace rx_f3 := f_rx 3
      go_wp2_with fail
      refine (D2.out _).mono ?_; rintro e wb ⟨rfl, hb⟩; have hz := hb.size; (try simp only [World.size_alloc, World.heap_drewN, World.size_drew, World.size_setCell] at hz)
      have HB2 := Lib.hid (show Below w.heap.size w wb from by have := HB1.out; exact bel)
      have z_rx : (w.heap.size + 1) < wb.heap.size := (by omega); replace rx : wb.rangeAt (w.heap.size + 1) 0 [.int .i64 i, .int .i64 3, .int .i64 c, .int .i64 p] := rng; replace f_rx : Free wb (w.heap.size + 1) := fre
      have z_ry : (wa.heap.size) < wb.heap.size := (by omega); replace ry : wb.rangeAt (wa.heap.size) 0 [.int .i64 i, .int .i64 3, .int .i64 (c + M), .int .i64 p] := rng
      clear hb
      replace rx_0 := range_cell rx 0 rfl; replace rx_1 := range_cell rx 1 rfl; replace rx_2 := range_cell rx 2 rfl; replace rx_3 := range_cell rx 3 rfl
      replace rx_f0 := f_rx 0; replace rx_f1 := f_rx 1; replace rx_f2 := f_rx 2; replace rx_f3 := f_rx 3
      replace ry_0 := range_cell ry 0 rfl; replace ry_1 := range_cell ry 1 rfl; replace ry_2 := range_cell ry 2 rfl; replace ry_3 := range_cell ry 3 rfl
      go_wp2_with fail
      refine (awake9_any _).mono ?_; rintro e wc ⟨rfl, hb⟩; have hz := hb.size; (try simp only [World.size_alloc, World.heap_drewN, World.size_drew, World.size_setCell] at hz)
      have HB3 := Lib.hid (show Below w.heap.size w wc from by have := HB2.out; exact bel)
      have z_rx : (w.heap.size + 1) < wc.heap.size := (by omega); replace rx : wc.rangeAt (w.heap.size + 1) 0 [.int .i64 i, .int .i64 3, .int .i64 (c + M), .int .i64 p] := rng
      have z_ry : (wa.heap.size) < wc.heap.size := (by omega); replace ry : wc.rangeAt (wa.heap.size) 0 [.int .i64 i, .int .i64 3, .int .i64 (c + M), .int .i64 p] := rng
      clear hb
      replace rx_0 := range_cell rx 0 rfl; replace rx_1 := range_cell rx 1 rfl; replace rx_2 := range_cell rx 2 rfl; replace rx_3 := range_cell rx 3 rfl
      replace ry_0 := range_cell ry 0 rfl; replace ry_1 := range_cell ry 1 rfl; replace ry_2 := range_cell ry 2 rfl; replace ry_3 := range_cell ry 3 rfl
      have := HB3.out
      go_wp2
      go_ret
      exact ⟨rfl, bel⟩
end Go.Proofs.Ytjkdmnodamcjnaa
