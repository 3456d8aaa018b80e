
import Derived.Test.YtjkdmnodamcjnaaRows
import Derived.Test.YtjkdmnodamcjnaaActH
import Derived.BigRegion
import Derived.Deep.Cut
import Derived.Deep.CutRange
namespace Go.Proofs.Ytjkdmnodamcjnaa
set_option linter.unusedVariables false
set_option linter.unusedSimpArgs false
open Go.ChangeShapes Go.WideShapes Go.RowKit

set_option maxRecDepth 20000 in
set_option maxHeartbeats 2000000 in
theorem actTells_walk (n : Int) (hn : -9223372036854775808 ≤ n ∧ n ≤ 9223372036854775807) (i : Int) (hi : -9223372036854775808 ≤ i ∧ i ≤ 9223372036854775807) (m : Int) (hm : -9223372036854775808 ≤ m ∧ m ≤ 9223372036854775807) (c : Int) (hc : -9223372036854775808 ≤ c ∧ c ≤ 9223372036854775807) (p : Int) (hp : -9223372036854775808 ≤ p ∧ p ≤ 9223372036854775807) (k0 : Int) (hk0 : -9223372036854775808 ≤ k0 ∧ k0 ≤ 9223372036854775807) (i0 : Int) (hi0 : -9223372036854775808 ≤ i0 ∧ i0 ≤ 9223372036854775807) (k1 : Int) (hk1 : -9223372036854775808 ≤ k1 ∧ k1 ≤ 9223372036854775807) (i1 : Int) (hi1 : -9223372036854775808 ≤ i1 ∧ i1 ≤ 9223372036854775807) (t : Int) (ht : -9223372036854775808 ≤ t ∧ t ≤ 9223372036854775807) (w : World) :
    Calls Try.prog 3 #[.agg #[.int .i64 n, .int .i64 i, .int .i64 m, .int .i64 c, .int .i64 p, .int .i64 k0, .int .i64 i0, .int .i64 k1, .int .i64 i1, .int .i64 t]] w fun e w' => e = .returned (.bool true) ∧ Below w.heap.size w w' := by
  clear hn hi hm hc hp hk0 hi0 hk1 hi1 ht
  go_enter Try.func3, Try.ntmps3
  go_upto_region 1 with fail
  go_cut [3, 4, 5, 6] from 15 to 22 (fun s3 s4 s5 s6 wx => s3 = .int .i64 n ∧ s6 = .int .i64 t ∧ ∃ b d : Nat, s4 = .pointer (some ⟨b, 0, none⟩) ∧ s5 = .pointer (some ⟨d, 0, none⟩) ∧ w.heap.size < b ∧ w.heap.size < d ∧ b < wx.heap.size ∧ d < wx.heap.size ∧ Below w.heap.size w wx ∧ wx.rangeAt b 0 [.int .i64 i, .int .i64 m, .int .i64 c, .int .i64 p] ∧ wx.rangeAt d 0 [.int .i64 k0, .int .i64 i0, .int .i64 k1, .int .i64 i1])
  case first =>
    go_region
    · go_wp2_with fail
      go_meet
      exact ⟨rfl, rfl, w.heap.size + 1, w.heap.size + 1 + 1, rfl, rfl, by omega, by omega, by simp, by simp, bel, rng, rng⟩
    · go_wp2_with fail
      go_meet
      exact ⟨rfl, rfl, w.heap.size + 1 + 1, w.heap.size + 1, rfl, rfl, by omega, by omega, by simp, by simp, bel, rng, rng⟩
  case rest =>
    obtain ⟨rfl, rfl, bx, bh, rfl, rfl, zb, zh, zbx, zhx, hbel, rx, rh⟩ := hcut
    have HB0 := Lib.hid hbel
    clear hbel
    replace rx_0 := range_cell rx 0 rfl; replace rx_1 := range_cell rx 1 rfl; replace rx_2 := range_cell rx 2 rfl; replace rx_3 := range_cell rx 3 rfl
    replace rh_0 := range_cell rh 0 rfl; replace rh_1 := range_cell rh 1 rfl; replace rh_2 := range_cell rh 2 rfl; replace rh_3 := range_cell rh 3 rfl
    have CH := Lib.hid (fun w => refHeard_any n k0 i0 k1 i1 w)
    by_cases hh : Act.heard n k0 i0 k1 i1 = true
    · rw [hh] at CH
      have C1 := Lib.hid (fun w => actStep_any n i m c p k0 i0 k1 i1 hh w)
      have C2 := Lib.hid (fun w => refStep_any n i m c p k0 i0 k1 i1 hh w)
      have D1 := Lib.hid (fun w => actQuiet_any n i m c p t w)
      have D2 := Lib.hid (fun w => refQuiet_any n i m c p t w)
      generalize Act.next n i m c p k0 i0 k1 i1 = y at *
      generalize Act.err n i m c p = ye at *
      generalize Act.quiet n i m c p t = q at *
      generalize Act.quietErr n i m c p t = qe at *
      obtain ⟨yi, ym, yc, yp⟩ := y
      obtain ⟨qi, qm, qc, qp⟩ := q
      rw [show Act.val ⟨yi, ym, yc, yp⟩ = .agg #[.int .i64 yi, .int .i64 ym, .int .i64 yc, .int .i64 yp] from rfl] at C1 C2
      rw [show Act.val ⟨qi, qm, qc, qp⟩ = .agg #[.int .i64 qi, .int .i64 qm, .int .i64 qc, .int .i64 qp] from rfl] at D1 D2
      clear hh
      go_wp2_with fail
      refine (CH.out _).mono ?_; rintro e v1 ⟨rfl, hb⟩; have hz := hb.size; (try simp only [World.size_alloc, World.heap_drewN, World.size_drew, World.size_setCell] at hz)
      have HB1 := Lib.hid (show Below w.heap.size w v1 from by have := HB0.out; exact bel)
      have z_rx : (bx) < v1.heap.size := (by omega); replace rx : v1.rangeAt (bx) 0 [.int .i64 i, .int .i64 m, .int .i64 c, .int .i64 p] := rng
      have z_rh : (bh) < v1.heap.size := (by omega); replace rh : v1.rangeAt (bh) 0 [.int .i64 k0, .int .i64 i0, .int .i64 k1, .int .i64 i1] := rng
      clear hb
      replace rx_0 := range_cell rx 0 rfl; replace rx_1 := range_cell rx 1 rfl; replace rx_2 := range_cell rx 2 rfl; replace rx_3 := range_cell rx 3 rfl
      replace rh_0 := range_cell rh 0 rfl; replace rh_1 := range_cell rh 1 rfl; replace rh_2 := range_cell rh 2 rfl; replace rh_3 := range_cell rh 3 rfl
      go_wp2_with fail
      refine (C1.out _).mono ?_; rintro e v2 ⟨rfl, hb⟩; have hz := hb.size; (try simp only [World.size_alloc, World.heap_drewN, World.size_drew, World.size_setCell] at hz)
      have HB2 := Lib.hid (show Below w.heap.size w v2 from by have := HB1.out; exact bel)
      have z_rx : (bx) < v2.heap.size := (by omega); replace rx : v2.rangeAt (bx) 0 [.int .i64 i, .int .i64 m, .int .i64 c, .int .i64 p] := rng
      have z_rh : (bh) < v2.heap.size := (by omega); replace rh : v2.rangeAt (bh) 0 [.int .i64 k0, .int .i64 i0, .int .i64 k1, .int .i64 i1] := rng
      clear hb
      replace rx_0 := range_cell rx 0 rfl; replace rx_1 := range_cell rx 1 rfl; replace rx_2 := range_cell rx 2 rfl; replace rx_3 := range_cell rx 3 rfl
      replace rh_0 := range_cell rh 0 rfl; replace rh_1 := range_cell rh 1 rfl; replace rh_2 := range_cell rh 2 rfl; replace rh_3 := range_cell rh 3 rfl
      go_wp2_with fail
      refine (C2.out _).mono ?_; rintro e v3 ⟨rfl, hb⟩; have hz := hb.size; (try simp only [World.size_alloc, World.heap_drewN, World.size_drew, World.size_setCell] at hz)
      have HB3 := Lib.hid (show Below w.heap.size w v3 from by have := HB2.out; exact bel)
      have z_rx : (bx) < v3.heap.size := (by omega); replace rx : v3.rangeAt (bx) 0 [.int .i64 i, .int .i64 m, .int .i64 c, .int .i64 p] := rng
      have z_rh : (bh) < v3.heap.size := (by omega); replace rh : v3.rangeAt (bh) 0 [.int .i64 k0, .int .i64 i0, .int .i64 k1, .int .i64 i1] := rng
      have z_ra : (v2.heap.size) < v3.heap.size := (by omega); replace ra : v3.rangeAt (v2.heap.size) 0 [.int .i64 yi, .int .i64 ym, .int .i64 yc, .int .i64 yp] := rng
      clear hb
      replace rx_0 := range_cell rx 0 rfl; replace rx_1 := range_cell rx 1 rfl; replace rx_2 := range_cell rx 2 rfl; replace rx_3 := range_cell rx 3 rfl
      replace rh_0 := range_cell rh 0 rfl; replace rh_1 := range_cell rh 1 rfl; replace rh_2 := range_cell rh 2 rfl; replace rh_3 := range_cell rh 3 rfl
      replace ra_0 := range_cell ra 0 rfl; replace ra_1 := range_cell ra 1 rfl; replace ra_2 := range_cell ra 2 rfl; replace ra_3 := range_cell ra 3 rfl
      go_wp2_with fail
      refine (D1.out _).mono ?_; rintro e v4 ⟨rfl, hb⟩; have hz := hb.size; (try simp only [World.size_alloc, World.heap_drewN, World.size_drew, World.size_setCell] at hz)
      have HB4 := Lib.hid (show Below w.heap.size w v4 from by have := HB3.out; exact bel)
      have z_rx : (bx) < v4.heap.size := (by omega); replace rx : v4.rangeAt (bx) 0 [.int .i64 i, .int .i64 m, .int .i64 c, .int .i64 p] := rng
      have z_rh : (bh) < v4.heap.size := (by omega); replace rh : v4.rangeAt (bh) 0 [.int .i64 k0, .int .i64 i0, .int .i64 k1, .int .i64 i1] := rng
      have z_ra : (v2.heap.size) < v4.heap.size := (by omega); replace ra : v4.rangeAt (v2.heap.size) 0 [.int .i64 yi, .int .i64 ym, .int .i64 yc, .int .i64 yp] := rng
      have z_rb : (v3.heap.size) < v4.heap.size := (by omega); replace rb : v4.rangeAt (v3.heap.size) 0 [.int .i64 yi, .int .i64 ym, .int .i64 yc, .int .i64 yp] := rng
      clear hb
      replace rx_0 := range_cell rx 0 rfl; replace rx_1 := range_cell rx 1 rfl; replace rx_2 := range_cell rx 2 rfl; replace rx_3 := range_cell rx 3 rfl
      replace rh_0 := range_cell rh 0 rfl; replace rh_1 := range_cell rh 1 rfl; replace rh_2 := range_cell rh 2 rfl; replace rh_3 := range_cell rh 3 rfl
      replace ra_0 := range_cell ra 0 rfl; replace ra_1 := range_cell ra 1 rfl; replace ra_2 := range_cell ra 2 rfl; replace ra_3 := range_cell ra 3 rfl
      replace rb_0 := range_cell rb 0 rfl; replace rb_1 := range_cell rb 1 rfl; replace rb_2 := range_cell rb 2 rfl; replace rb_3 := range_cell rb 3 rfl
      go_wp2_with fail
      refine (D2.out _).mono ?_; rintro e v5 ⟨rfl, hb⟩; have hz := hb.size; (try simp only [World.size_alloc, World.heap_drewN, World.size_drew, World.size_setCell] at hz)
      have HB5 := Lib.hid (show Below w.heap.size w v5 from by have := HB4.out; exact bel)
      have z_rx : (bx) < v5.heap.size := (by omega); replace rx : v5.rangeAt (bx) 0 [.int .i64 i, .int .i64 m, .int .i64 c, .int .i64 p] := rng
      have z_rh : (bh) < v5.heap.size := (by omega); replace rh : v5.rangeAt (bh) 0 [.int .i64 k0, .int .i64 i0, .int .i64 k1, .int .i64 i1] := rng
      have z_ra : (v2.heap.size) < v5.heap.size := (by omega); replace ra : v5.rangeAt (v2.heap.size) 0 [.int .i64 yi, .int .i64 ym, .int .i64 yc, .int .i64 yp] := rng
      have z_rb : (v3.heap.size) < v5.heap.size := (by omega); replace rb : v5.rangeAt (v3.heap.size) 0 [.int .i64 yi, .int .i64 ym, .int .i64 yc, .int .i64 yp] := rng
      have z_rc : (v4.heap.size) < v5.heap.size := (by omega); replace rc : v5.rangeAt (v4.heap.size) 0 [.int .i64 qi, .int .i64 qm, .int .i64 qc, .int .i64 qp] := rng
      clear hb
      replace rx_0 := range_cell rx 0 rfl; replace rx_1 := range_cell rx 1 rfl; replace rx_2 := range_cell rx 2 rfl; replace rx_3 := range_cell rx 3 rfl
      replace rh_0 := range_cell rh 0 rfl; replace rh_1 := range_cell rh 1 rfl; replace rh_2 := range_cell rh 2 rfl; replace rh_3 := range_cell rh 3 rfl
      replace ra_0 := range_cell ra 0 rfl; replace ra_1 := range_cell ra 1 rfl; replace ra_2 := range_cell ra 2 rfl; replace ra_3 := range_cell ra 3 rfl
      replace rb_0 := range_cell rb 0 rfl; replace rb_1 := range_cell rb 1 rfl; replace rb_2 := range_cell rb 2 rfl; replace rb_3 := range_cell rb 3 rfl
      replace rc_0 := range_cell rc 0 rfl; replace rc_1 := range_cell rc 1 rfl; replace rc_2 := range_cell rc 2 rfl; replace rc_3 := range_cell rc 3 rfl
      go_wp2_with fail
      refine (awake9_any _).mono ?_; rintro e v6 ⟨rfl, hb⟩; have hz := hb.size; (try simp only [World.size_alloc, World.heap_drewN, World.size_drew, World.size_setCell] at hz)
      have HB6 := Lib.hid (show Below w.heap.size w v6 from by have := HB5.out; exact bel)
      have z_ra : (v2.heap.size) < v6.heap.size := (by omega); replace ra : v6.rangeAt (v2.heap.size) 0 [.int .i64 yi, .int .i64 ym, .int .i64 yc, .int .i64 yp] := rng
      have z_rb : (v3.heap.size) < v6.heap.size := (by omega); replace rb : v6.rangeAt (v3.heap.size) 0 [.int .i64 yi, .int .i64 ym, .int .i64 yc, .int .i64 yp] := rng
      have z_rc : (v4.heap.size) < v6.heap.size := (by omega); replace rc : v6.rangeAt (v4.heap.size) 0 [.int .i64 qi, .int .i64 qm, .int .i64 qc, .int .i64 qp] := rng
      have z_rd : (v5.heap.size) < v6.heap.size := (by omega); replace rd : v6.rangeAt (v5.heap.size) 0 [.int .i64 qi, .int .i64 qm, .int .i64 qc, .int .i64 qp] := rng
      clear hb
      replace ra_0 := range_cell ra 0 rfl; replace ra_1 := range_cell ra 1 rfl; replace ra_2 := range_cell ra 2 rfl; replace ra_3 := range_cell ra 3 rfl
      replace rb_0 := range_cell rb 0 rfl; replace rb_1 := range_cell rb 1 rfl; replace rb_2 := range_cell rb 2 rfl; replace rb_3 := range_cell rb 3 rfl
      replace rc_0 := range_cell rc 0 rfl; replace rc_1 := range_cell rc 1 rfl; replace rc_2 := range_cell rc 2 rfl; replace rc_3 := range_cell rc 3 rfl
      replace rd_0 := range_cell rd 0 rfl; replace rd_1 := range_cell rd 1 rfl; replace rd_2 := range_cell rd 2 rfl; replace rd_3 := range_cell rd 3 rfl
      have := HB6.out
      go_wp2
      go_ret
      exact ⟨rfl, bel⟩
    · rw [Bool.eq_false_iff.2 hh] at CH
      clear hh
      go_wp2_with fail
      refine (CH.out _).mono ?_; rintro e v1 ⟨rfl, hb⟩; have hz := hb.size; (try simp only [World.size_alloc, World.heap_drewN, World.size_drew, World.size_setCell] at hz)
      have HB1 := Lib.hid (show Below w.heap.size w v1 from by have := HB0.out; exact bel)
      have z_rx : (bx) < v1.heap.size := (by omega); replace rx : v1.rangeAt (bx) 0 [.int .i64 i, .int .i64 m, .int .i64 c, .int .i64 p] := rng
      have z_rh : (bh) < v1.heap.size := (by omega); replace rh : v1.rangeAt (bh) 0 [.int .i64 k0, .int .i64 i0, .int .i64 k1, .int .i64 i1] := rng
      clear hb
      replace rx_0 := range_cell rx 0 rfl; replace rx_1 := range_cell rx 1 rfl; replace rx_2 := range_cell rx 2 rfl; replace rx_3 := range_cell rx 3 rfl
      replace rh_0 := range_cell rh 0 rfl; replace rh_1 := range_cell rh 1 rfl; replace rh_2 := range_cell rh 2 rfl; replace rh_3 := range_cell rh 3 rfl
      go_wp2_with fail
      refine (awake9_any _).mono ?_; rintro e v2 ⟨rfl, hb⟩; have hz := hb.size; (try simp only [World.size_alloc, World.heap_drewN, World.size_drew, World.size_setCell] at hz)
      have := HB1.out
      go_wp2
      go_ret
      exact ⟨rfl, bel⟩
end Go.Proofs.Ytjkdmnodamcjnaa
