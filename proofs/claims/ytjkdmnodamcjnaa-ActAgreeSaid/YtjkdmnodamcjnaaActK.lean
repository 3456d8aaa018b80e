
import Derived.Test.YtjkdmnodamcjnaaRows
import Derived.Test.YtjkdmnodamcjnaaActH
import Derived.BigRegion
import Derived.Deep.Cut
import Derived.Deep.CutRange
namespace Go.Proofs.Ytjkdmnodamcjnaa
set_option linter.unusedVariables false
set_option linter.unusedSimpArgs false
open Go.ChangeShapes Go.WideShapes Go.RowKit

theorem Act.step_info {n i m c p k : Int} (hm : m ≠ 3) : Act.step n i m c p 2 k 0 0 = ⟨i, 3, 0, (k + 1) % n⟩ := by
  unfold Act.step Act.cold Act.listen
  rw [if_neg hm]
  have e : (Hear.isInfo 2 || Hear.isInfo 0) = true := by decide
  have f : Hear.firstI (Hear.isInfo 2) (Hear.isInfo 0) k 0 = k := rfl
  rw [e, f]
  simp
theorem Act.step_cs {n i c p k : Int} (hk : i ≠ k) : Act.step n i 2 c p 0 0 1 k = ⟨i, 3, 0, (k + 1) % n⟩ := by
  unfold Act.step Act.cold
  have e : (Hear.isInfo 0 || Hear.isInfo 1) = false := by decide
  have f : Hear.isOther i 0 0 = false := by simp [Hear.isOther]
  have g : Hear.isOther i 1 k = true := by simp [Hear.isOther, Ne.symm hk]
  rw [e, f, g]
  simp [Hear.firstI]
theorem actInfo_any (n i m c p k : Int) (h : Node.right n i m c p = true) (h0 : m ≠ 0) (h3 : m ≠ 3) (hk : 0 ≤ k ∧ k < n) (w : World) :
    Calls Try.prog 9 #[.int .i64 n, .agg #[.int .i64 i, .int .i64 m, .int .i64 c, .int .i64 p], .agg #[.int .i64 2, .int .i64 k, .int .i64 0, .int .i64 0]] w fun e w' => e = .returned (.tuple #[.agg #[.int .i64 i, .int .i64 3, .int .i64 0, .int .i64 ((k + 1) % n)], .int .i64 0]) ∧ Below w.heap.size w w' := by
  have hg : Act.good n i m c p = true := by unfold Act.good; simp [h, h0]
  have q := actStep_any n i m c p 2 k 0 0 (Act.heard_iff.2 (by omega)) w
  rw [show Act.next n i m c p 2 k 0 0 = ⟨i, 3, 0, (k + 1) % n⟩ by unfold Act.next; rw [if_pos hg, Act.step_info h3], show Act.err n i m c p = 0 by unfold Act.err; rw [if_pos hg]] at q
  exact q
theorem actCs_any (n i c p k : Int) (h : Node.right n i 2 c p = true) (hi : i ≠ k) (hk : 0 ≤ k ∧ k < n) (w : World) :
    Calls Try.prog 9 #[.int .i64 n, .agg #[.int .i64 i, .int .i64 2, .int .i64 c, .int .i64 p], .agg #[.int .i64 0, .int .i64 0, .int .i64 1, .int .i64 k]] w fun e w' => e = .returned (.tuple #[.agg #[.int .i64 i, .int .i64 3, .int .i64 0, .int .i64 ((k + 1) % n)], .int .i64 0]) ∧ Below w.heap.size w w' := by
  have hg : Act.good n i 2 c p = true := by unfold Act.good; simp [h]
  have q := actStep_any n i 2 c p 0 0 1 k (Act.heard_iff.2 (by omega)) w
  rw [show Act.next n i 2 c p 0 0 1 k = ⟨i, 3, 0, (k + 1) % n⟩ by unfold Act.next; rw [if_pos hg, Act.step_cs hi], show Act.err n i 2 c p = 0 by unfold Act.err; rw [if_pos hg]] at q
  exact q
/-- Where the two nodes lie, and all that was there. -/
def AgreeW (w : World) (xi xm xc xp yi ym yc yp : Int) (b d : Nat) (wx : World) : Prop :=
  b < wx.heap.size ∧ d < wx.heap.size ∧ Below w.heap.size w wx ∧ wx.rangeAt b 0 [.int .i64 xi, .int .i64 xm, .int .i64 xc, .int .i64 xp] ∧ wx.rangeAt d 0 [.int .i64 yi, .int .i64 ym, .int .i64 yc, .int .i64 yp]
def AgreeAt (w : World) (xi xm xc xp yi ym yc yp : Int) (s4 s5 : Value) (wx : World) : Prop :=
  ∃ b d : Nat, s4 = .pointer (some ⟨b, 0, none⟩) ∧ s5 = .pointer (some ⟨d, 0, none⟩) ∧ w.heap.size < b ∧ w.heap.size < d ∧ AgreeW w xi xm xc xp yi ym yc yp b d wx
def AgreeBad (M xi xm xc xp yi ym yc yp : Int) : Bool := !Node.right M xi xm xc xp || !Node.right M yi ym yc yp || xm == 0 || ym == 0 || xm == 3 || ym == 3
set_option maxRecDepth 20000 in
set_option maxHeartbeats 8000000 in
theorem actAgree_walk (n : Nat) (hn : n < 256) (xi : Int) (hxi : -9223372036854775808 ≤ xi ∧ xi ≤ 9223372036854775807) (xm : Int) (hxm : -9223372036854775808 ≤ xm ∧ xm ≤ 9223372036854775807) (xc : Int) (hxc : -9223372036854775808 ≤ xc ∧ xc ≤ 9223372036854775807) (xp : Int) (hxp : -9223372036854775808 ≤ xp ∧ xp ≤ 9223372036854775807) (yi : Int) (hyi : -9223372036854775808 ≤ yi ∧ yi ≤ 9223372036854775807) (ym : Int) (hym : -9223372036854775808 ≤ ym ∧ ym ≤ 9223372036854775807) (yc : Int) (hyc : -9223372036854775808 ≤ yc ∧ yc ≤ 9223372036854775807) (yp : Int) (hyp : -9223372036854775808 ≤ yp ∧ yp ≤ 9223372036854775807) (id : Nat) (hid : id < 256) (w : World) :
    Calls Try.prog 6 #[.agg #[.int .u8 n, .int .i64 xi, .int .i64 xm, .int .i64 xc, .int .i64 xp, .int .i64 yi, .int .i64 ym, .int .i64 yc, .int .i64 yp, .int .u8 id]] w fun e w' => e = .returned (.bool true) ∧ Below w.heap.size w w' := by
  clear hxi hxm hxc hxp hyi hym hyc hyp
  have g3 : (3 : Int) ≤ 3 + (n : Int) % 6 := by omega
  have g8 : 3 + (n : Int) % 6 ≤ 8 := by omega
  go_enter Try.func6, Try.ntmps6
  go_upto_region 1 with fail
  go_cut [3, 4, 5, 6] from 19 to 26 (fun s3 s4 s5 s6 wx => s3 = .int .u8 n ∧ s6 = .int .u8 id ∧ AgreeAt w xi xm xc xp yi ym yc yp s4 s5 wx)
  case first =>
    go_region
    · go_wp2_with fail
      go_meet
      exact ⟨rfl, rfl, w.heap.size + 1, w.heap.size + 1 + 1, rfl, rfl, by omega, by omega, by simp, by simp, bel, rng, rng⟩
    · go_wp2_with fail
      go_meet
      exact ⟨rfl, rfl, w.heap.size + 1 + 1, w.heap.size + 1, rfl, rfl, by omega, by omega, by simp, by simp, bel, rng, rng⟩
  case rest =>
    obtain ⟨rfl, rfl, bx, bd, rfl, rfl, zb, zd, zbx, zdx, hbel, rx, ry⟩ := hcut
    have HB0 := Lib.hid hbel
    clear hbel
    replace rx_0 := range_cell rx 0 rfl; replace rx_1 := range_cell rx 1 rfl; replace rx_2 := range_cell rx 2 rfl; replace rx_3 := range_cell rx 3 rfl
    replace ry_0 := range_cell ry 0 rfl; replace ry_1 := range_cell ry 1 rfl; replace ry_2 := range_cell ry 2 rfl; replace ry_3 := range_cell ry 3 rfl
    go_upto_region 3 with fail
    generalize hMM : 3 + (n : Int) % 6 = M at *
    clear hMM
    go_cut [60] from 31 to 60 (fun s60 wx => s60 = .bool (AgreeBad M xi xm xc xp yi ym yc yp) ∧ AgreeW w xi xm xc xp yi ym yc yp bx bd wx)
    case first =>
      by_cases hx : Node.right M xi xm xc xp = true
      · by_cases hy : Node.right M yi ym yc yp = true
        · have RX := Lib.hid (fun w => refNright_any M xi xm xc xp w)
          have RY := Lib.hid (fun w => refNright_any M yi ym yc yp w)
          rw [hx] at RX
          rw [hy] at RY
          have HX := Lib.hid hx
          have HY := Lib.hid hy
          clear hx hy
          have K : ∀ b : Bool, b = (((xm == 0 || ym == 0) || xm == 3) || ym == 3) → Value.bool b = Value.bool (AgreeBad M xi xm xc xp yi ym yc yp) := fun b hb => by rw [hb]; simp [AgreeBad, HX.out, HY.out]
          have HK := Lib.hid K
          clear K
          go_wp2_with fail
          refine (RX.out _).mono ?_; rintro e v1 ⟨rfl, hb⟩; have hz := hb.size; (try simp only [World.size_alloc, World.heap_drewN, World.size_drew, World.size_setCell] at hz)
          have HB1 := Lib.hid (show Below w.heap.size w v1 from by have := HB0.out; exact bel)
          have z_rx : (bx) < v1.heap.size := (by omega); replace rx : v1.rangeAt (bx) 0 [.int .i64 xi, .int .i64 xm, .int .i64 xc, .int .i64 xp] := rng
          have z_ry : (bd) < v1.heap.size := (by omega); replace ry : v1.rangeAt (bd) 0 [.int .i64 yi, .int .i64 ym, .int .i64 yc, .int .i64 yp] := rng
          clear hb
          replace rx_0 := range_cell rx 0 rfl; replace rx_1 := range_cell rx 1 rfl; replace rx_2 := range_cell rx 2 rfl; replace rx_3 := range_cell rx 3 rfl
          replace ry_0 := range_cell ry 0 rfl; replace ry_1 := range_cell ry 1 rfl; replace ry_2 := range_cell ry 2 rfl; replace ry_3 := range_cell ry 3 rfl
          go_wp2_with fail
          refine (RY.out _).mono ?_; rintro e v2 ⟨rfl, hb⟩; have hz := hb.size; (try simp only [World.size_alloc, World.heap_drewN, World.size_drew, World.size_setCell] at hz)
          have HB2 := Lib.hid (show Below w.heap.size w v2 from by have := HB1.out; exact bel)
          have z_rx : (bx) < v2.heap.size := (by omega); replace rx : v2.rangeAt (bx) 0 [.int .i64 xi, .int .i64 xm, .int .i64 xc, .int .i64 xp] := rng
          have z_ry : (bd) < v2.heap.size := (by omega); replace ry : v2.rangeAt (bd) 0 [.int .i64 yi, .int .i64 ym, .int .i64 yc, .int .i64 yp] := rng
          clear hb
          replace rx_0 := range_cell rx 0 rfl; replace rx_1 := range_cell rx 1 rfl; replace rx_2 := range_cell rx 2 rfl; replace rx_3 := range_cell rx 3 rfl
          replace ry_0 := range_cell ry 0 rfl; replace ry_1 := range_cell ry 1 rfl; replace ry_2 := range_cell ry 2 rfl; replace ry_3 := range_cell ry 3 rfl
          cases q0 : (xm == 0)
          · cases q1 : (ym == 0)
            · cases q2 : (xm == 3)
              · cases q3 : (ym == 3)
                · go_wp2_with fail
                  go_meet
                  have := HB2.out
                  exact ⟨HK.out _ (by simp [*]), by omega, by omega, bel, rng, rng⟩
                · go_wp2_with fail
                  go_meet
                  have := HB2.out
                  exact ⟨HK.out _ (by simp [*]), by omega, by omega, bel, rng, rng⟩
              · go_wp2_with fail
                go_meet
                have := HB2.out
                exact ⟨HK.out _ (by simp [*]), by omega, by omega, bel, rng, rng⟩
            · go_wp2_with fail
              go_meet
              have := HB2.out
              exact ⟨HK.out _ (by simp [*]), by omega, by omega, bel, rng, rng⟩
          · go_wp2_with fail
            go_meet
            have := HB2.out
            exact ⟨HK.out _ (by simp [*]), by omega, by omega, bel, rng, rng⟩
        · have hy := Bool.eq_false_iff.2 hy
          have RX := Lib.hid (fun w => refNright_any M xi xm xc xp w)
          have RY := Lib.hid (fun w => refNright_any M yi ym yc yp w)
          rw [hx] at RX
          rw [hy] at RY
          go_wp2_with fail
          refine (RX.out _).mono ?_; rintro e v1 ⟨rfl, hb⟩; have hz := hb.size; (try simp only [World.size_alloc, World.heap_drewN, World.size_drew, World.size_setCell] at hz)
          have HB1 := Lib.hid (show Below w.heap.size w v1 from by have := HB0.out; exact bel)
          have z_rx : (bx) < v1.heap.size := (by omega); replace rx : v1.rangeAt (bx) 0 [.int .i64 xi, .int .i64 xm, .int .i64 xc, .int .i64 xp] := rng
          have z_ry : (bd) < v1.heap.size := (by omega); replace ry : v1.rangeAt (bd) 0 [.int .i64 yi, .int .i64 ym, .int .i64 yc, .int .i64 yp] := rng
          clear hb
          replace rx_0 := range_cell rx 0 rfl; replace rx_1 := range_cell rx 1 rfl; replace rx_2 := range_cell rx 2 rfl; replace rx_3 := range_cell rx 3 rfl
          replace ry_0 := range_cell ry 0 rfl; replace ry_1 := range_cell ry 1 rfl; replace ry_2 := range_cell ry 2 rfl; replace ry_3 := range_cell ry 3 rfl
          go_wp2_with fail
          refine (RY.out _).mono ?_; rintro e v2 ⟨rfl, hb⟩; have hz := hb.size; (try simp only [World.size_alloc, World.heap_drewN, World.size_drew, World.size_setCell] at hz)
          have HB2 := Lib.hid (show Below w.heap.size w v2 from by have := HB1.out; exact bel)
          have z_rx : (bx) < v2.heap.size := (by omega); replace rx : v2.rangeAt (bx) 0 [.int .i64 xi, .int .i64 xm, .int .i64 xc, .int .i64 xp] := rng
          have z_ry : (bd) < v2.heap.size := (by omega); replace ry : v2.rangeAt (bd) 0 [.int .i64 yi, .int .i64 ym, .int .i64 yc, .int .i64 yp] := rng
          clear hb
          replace rx_0 := range_cell rx 0 rfl; replace rx_1 := range_cell rx 1 rfl; replace rx_2 := range_cell rx 2 rfl; replace rx_3 := range_cell rx 3 rfl
          replace ry_0 := range_cell ry 0 rfl; replace ry_1 := range_cell ry 1 rfl; replace ry_2 := range_cell ry 2 rfl; replace ry_3 := range_cell ry 3 rfl
          go_wp2_with fail
          go_meet
          have := HB2.out
          exact ⟨congrArg Value.bool (by simp [AgreeBad, hx, hy]), by omega, by omega, bel, rng, rng⟩
      · have hx := Bool.eq_false_iff.2 hx
        have RX := Lib.hid (fun w => refNright_any M xi xm xc xp w)
        rw [hx] at RX
        go_wp2_with fail
        refine (RX.out _).mono ?_; rintro e v1 ⟨rfl, hb⟩; have hz := hb.size; (try simp only [World.size_alloc, World.heap_drewN, World.size_drew, World.size_setCell] at hz)
        have HB1 := Lib.hid (show Below w.heap.size w v1 from by have := HB0.out; exact bel)
        have z_rx : (bx) < v1.heap.size := (by omega); replace rx : v1.rangeAt (bx) 0 [.int .i64 xi, .int .i64 xm, .int .i64 xc, .int .i64 xp] := rng
        have z_ry : (bd) < v1.heap.size := (by omega); replace ry : v1.rangeAt (bd) 0 [.int .i64 yi, .int .i64 ym, .int .i64 yc, .int .i64 yp] := rng
        clear hb
        replace rx_0 := range_cell rx 0 rfl; replace rx_1 := range_cell rx 1 rfl; replace rx_2 := range_cell rx 2 rfl; replace rx_3 := range_cell rx 3 rfl
        replace ry_0 := range_cell ry 0 rfl; replace ry_1 := range_cell ry 1 rfl; replace ry_2 := range_cell ry 2 rfl; replace ry_3 := range_cell ry 3 rfl
        go_wp2_with fail
        go_meet
        have := HB1.out
        exact ⟨congrArg Value.bool (by simp [AgreeBad, hx]), by omega, by omega, bel, rng, rng⟩
    case rest =>
      obtain ⟨rfl, zbx2, zdx2, hbel, rx, ry⟩ := hcut
      have HB2 := Lib.hid hbel
      clear hbel
      replace rx_0 := range_cell rx 0 rfl; replace rx_1 := range_cell rx 1 rfl; replace rx_2 := range_cell rx 2 rfl; replace rx_3 := range_cell rx 3 rfl
      replace ry_0 := range_cell ry 0 rfl; replace ry_1 := range_cell ry 1 rfl; replace ry_2 := range_cell ry 2 rfl; replace ry_3 := range_cell ry 3 rfl
      have zz0 : w.heap.size < wc.heap.size := by omega
      by_cases hbad : AgreeBad M xi xm xc xp yi ym yc yp = true
      · rw [hbad]
        clear hbad
        go_wp2_with fail
        refine (awake9_any _).mono ?_; rintro e v1 ⟨rfl, hb⟩; have hz := hb.size; (try simp only [World.size_alloc, World.heap_drewN, World.size_drew, World.size_setCell] at hz)
        have := HB2.out
        go_wp2
        go_ret
        exact ⟨rfl, bel⟩
      · have hgood := Bool.eq_false_iff.2 hbad
        rw [hgood]
        clear hbad
        have hq : Node.right M xi xm xc xp = true ∧ Node.right M yi ym yc yp = true ∧ xm ≠ 0 ∧ ym ≠ 0 ∧ xm ≠ 3 ∧ ym ≠ 3 := by
          unfold AgreeBad at hgood
          simp at hgood
          simp [hgood]
        clear hgood
        obtain ⟨hx, hy, qx0, qy0, qx3, qy3⟩ := hq
        have hk0 := Int.emod_nonneg (id : Int) (b := M) (by omega)
        have hk1 := Int.emod_lt_of_pos (id : Int) (b := M) (by omega)
        have hmz : (M == 0) = false := by simp; omega
        have htm : Int.tmod (id : Int) M = (id : Int) % M := Int.tmod_eq_emod_of_nonneg (by omega)
        have HX := Lib.hid hx
        have HY := Lib.hid hy
        have C1 := Lib.hid (fun w => actInfo_any M xi xm xc xp ((id : Int) % M) hx qx0 qx3 ⟨hk0, hk1⟩ w)
        have C2 := Lib.hid (fun w => actInfo_any M yi ym yc yp ((id : Int) % M) hy qy0 qy3 ⟨hk0, hk1⟩ w)
        clear hx hy qx0 qy0 qx3 qy3
        go_wp2_with fail
        generalize hkk : (id : Int) % M = k at *
        clear hkk
        refine (C1.out _).mono ?_; rintro e v1 ⟨rfl, hb⟩; have hz := hb.size; (try simp only [World.size_alloc, World.heap_drewN, World.size_drew, World.size_setCell] at hz)
        have HB3 := Lib.hid (show Below w.heap.size w v1 from by have := HB2.out; exact bel)
        have z_rx : (bx) < v1.heap.size := (by omega); replace rx : v1.rangeAt (bx) 0 [.int .i64 xi, .int .i64 xm, .int .i64 xc, .int .i64 xp] := rng
        have z_ry : (bd) < v1.heap.size := (by omega); replace ry : v1.rangeAt (bd) 0 [.int .i64 yi, .int .i64 ym, .int .i64 yc, .int .i64 yp] := rng
        have z_rh : (wc.heap.size) < v1.heap.size := (by omega); replace rh : v1.rangeAt (wc.heap.size) 0 [.int .i64 2, .int .i64 k, .int .i64 0, .int .i64 0] := rng
        have z_rs : (wc.heap.size + 1) < v1.heap.size := (by omega); replace rs : v1.rangeAt (wc.heap.size + 1) 0 [.int .i64 0, .int .i64 0, .int .i64 1, .int .i64 k] := rng
        clear hb
        replace rx_0 := range_cell rx 0 rfl; replace rx_1 := range_cell rx 1 rfl; replace rx_2 := range_cell rx 2 rfl; replace rx_3 := range_cell rx 3 rfl
        replace ry_0 := range_cell ry 0 rfl; replace ry_1 := range_cell ry 1 rfl; replace ry_2 := range_cell ry 2 rfl; replace ry_3 := range_cell ry 3 rfl
        replace rh_0 := range_cell rh 0 rfl; replace rh_1 := range_cell rh 1 rfl; replace rh_2 := range_cell rh 2 rfl; replace rh_3 := range_cell rh 3 rfl
        replace rs_0 := range_cell rs 0 rfl; replace rs_1 := range_cell rs 1 rfl; replace rs_2 := range_cell rs 2 rfl; replace rs_3 := range_cell rs 3 rfl
        go_wp2_with fail
        refine (C2.out _).mono ?_; rintro e v2 ⟨rfl, hb⟩; have hz := hb.size; (try simp only [World.size_alloc, World.heap_drewN, World.size_drew, World.size_setCell] at hz)
        have HB4 := Lib.hid (show Below w.heap.size w v2 from by have := HB3.out; exact bel)
        have z_rx : (bx) < v2.heap.size := (by omega); replace rx : v2.rangeAt (bx) 0 [.int .i64 xi, .int .i64 xm, .int .i64 xc, .int .i64 xp] := rng
        have z_ry : (bd) < v2.heap.size := (by omega); replace ry : v2.rangeAt (bd) 0 [.int .i64 yi, .int .i64 ym, .int .i64 yc, .int .i64 yp] := rng
        have z_rh : (wc.heap.size) < v2.heap.size := (by omega); replace rh : v2.rangeAt (wc.heap.size) 0 [.int .i64 2, .int .i64 k, .int .i64 0, .int .i64 0] := rng
        have z_rs : (wc.heap.size + 1) < v2.heap.size := (by omega); replace rs : v2.rangeAt (wc.heap.size + 1) 0 [.int .i64 0, .int .i64 0, .int .i64 1, .int .i64 k] := rng
        have z_ra : (v1.heap.size) < v2.heap.size := (by omega); replace ra : v2.rangeAt (v1.heap.size) 0 [.int .i64 xi, .int .i64 3, .int .i64 0, .int .i64 ((k + 1) % M)] := rng
        clear hb
        replace rx_0 := range_cell rx 0 rfl; replace rx_1 := range_cell rx 1 rfl; replace rx_2 := range_cell rx 2 rfl; replace rx_3 := range_cell rx 3 rfl
        replace ry_0 := range_cell ry 0 rfl; replace ry_1 := range_cell ry 1 rfl; replace ry_2 := range_cell ry 2 rfl; replace ry_3 := range_cell ry 3 rfl
        replace rh_0 := range_cell rh 0 rfl; replace rh_1 := range_cell rh 1 rfl; replace rh_2 := range_cell rh 2 rfl; replace rh_3 := range_cell rh 3 rfl
        replace rs_0 := range_cell rs 0 rfl; replace rs_1 := range_cell rs 1 rfl; replace rs_2 := range_cell rs 2 rfl; replace rs_3 := range_cell rs 3 rfl
        replace ra_0 := range_cell ra 0 rfl; replace ra_1 := range_cell ra 1 rfl; replace ra_2 := range_cell ra 2 rfl; replace ra_3 := range_cell ra 3 rfl
        by_cases hx2 : xm = 2
        · by_cases hy2 : ym = 2
          · subst hx2 hy2
            by_cases hxk : xi = k
            · have q : (xi == k) = true := by simp [hxk]
              clear hxk
              go_wp2_with fail
              refine (awake9_any _).mono ?_; rintro e v3 ⟨rfl, hb⟩; have hz := hb.size; (try simp only [World.size_alloc, World.heap_drewN, World.size_drew, World.size_setCell] at hz)
              have := HB4.out
              go_wp2
              go_ret
              exact ⟨rfl, bel⟩
            · have q : (xi == k) = false := by simp [hxk]
              by_cases hyk : yi = k
              · have q2 : (yi == k) = true := by simp [hyk]
                clear hyk hxk
                go_wp2_with fail
                refine (awake9_any _).mono ?_; rintro e v3 ⟨rfl, hb⟩; have hz := hb.size; (try simp only [World.size_alloc, World.heap_drewN, World.size_drew, World.size_setCell] at hz)
                have := HB4.out
                go_wp2
                go_ret
                exact ⟨rfl, bel⟩
              · have q2 : (yi == k) = false := by simp [hyk]
                have D1 := Lib.hid (fun w => actCs_any M xi xc xp k HX.out hxk ⟨hk0, hk1⟩ w)
                have D2 := Lib.hid (fun w => actCs_any M yi yc yp k HY.out hyk ⟨hk0, hk1⟩ w)
                clear hxk hyk
                go_wp2_with fail
                refine (D1.out _).mono ?_; rintro e v3 ⟨rfl, hb⟩; have hz := hb.size; (try simp only [World.size_alloc, World.heap_drewN, World.size_drew, World.size_setCell] at hz)
                have HB5 := Lib.hid (show Below w.heap.size w v3 from by have := HB4.out; exact bel)
                have z_rx : (bx) < v3.heap.size := (by omega); replace rx : v3.rangeAt (bx) 0 [.int .i64 xi, .int .i64 2, .int .i64 xc, .int .i64 xp] := rng
                have z_ry : (bd) < v3.heap.size := (by omega); replace ry : v3.rangeAt (bd) 0 [.int .i64 yi, .int .i64 2, .int .i64 yc, .int .i64 yp] := rng
                have z_rh : (wc.heap.size) < v3.heap.size := (by omega); replace rh : v3.rangeAt (wc.heap.size) 0 [.int .i64 2, .int .i64 k, .int .i64 0, .int .i64 0] := rng
                have z_rs : (wc.heap.size + 1) < v3.heap.size := (by omega); replace rs : v3.rangeAt (wc.heap.size + 1) 0 [.int .i64 0, .int .i64 0, .int .i64 1, .int .i64 k] := rng
                have z_ra : (v1.heap.size) < v3.heap.size := (by omega); replace ra : v3.rangeAt (v1.heap.size) 0 [.int .i64 xi, .int .i64 3, .int .i64 0, .int .i64 ((k + 1) % M)] := rng
                have z_rb : (v2.heap.size) < v3.heap.size := (by omega); replace rb : v3.rangeAt (v2.heap.size) 0 [.int .i64 yi, .int .i64 3, .int .i64 0, .int .i64 ((k + 1) % M)] := rng
                clear hb
                replace rx_0 := range_cell rx 0 rfl; replace rx_1 := range_cell rx 1 rfl; replace rx_2 := range_cell rx 2 rfl; replace rx_3 := range_cell rx 3 rfl
                replace ry_0 := range_cell ry 0 rfl; replace ry_1 := range_cell ry 1 rfl; replace ry_2 := range_cell ry 2 rfl; replace ry_3 := range_cell ry 3 rfl
                replace rh_0 := range_cell rh 0 rfl; replace rh_1 := range_cell rh 1 rfl; replace rh_2 := range_cell rh 2 rfl; replace rh_3 := range_cell rh 3 rfl
                replace rs_0 := range_cell rs 0 rfl; replace rs_1 := range_cell rs 1 rfl; replace rs_2 := range_cell rs 2 rfl; replace rs_3 := range_cell rs 3 rfl
                replace ra_0 := range_cell ra 0 rfl; replace ra_1 := range_cell ra 1 rfl; replace ra_2 := range_cell ra 2 rfl; replace ra_3 := range_cell ra 3 rfl
                replace rb_0 := range_cell rb 0 rfl; replace rb_1 := range_cell rb 1 rfl; replace rb_2 := range_cell rb 2 rfl; replace rb_3 := range_cell rb 3 rfl
                go_wp2_with fail
                refine (D2.out _).mono ?_; rintro e v4 ⟨rfl, hb⟩; have hz := hb.size; (try simp only [World.size_alloc, World.heap_drewN, World.size_drew, World.size_setCell] at hz)
                have HB6 := Lib.hid (show Below w.heap.size w v4 from by have := HB5.out; exact bel)
                have z_rx : (bx) < v4.heap.size := (by omega); replace rx : v4.rangeAt (bx) 0 [.int .i64 xi, .int .i64 2, .int .i64 xc, .int .i64 xp] := rng
                have z_ry : (bd) < v4.heap.size := (by omega); replace ry : v4.rangeAt (bd) 0 [.int .i64 yi, .int .i64 2, .int .i64 yc, .int .i64 yp] := rng
                have z_rh : (wc.heap.size) < v4.heap.size := (by omega); replace rh : v4.rangeAt (wc.heap.size) 0 [.int .i64 2, .int .i64 k, .int .i64 0, .int .i64 0] := rng
                have z_rs : (wc.heap.size + 1) < v4.heap.size := (by omega); replace rs : v4.rangeAt (wc.heap.size + 1) 0 [.int .i64 0, .int .i64 0, .int .i64 1, .int .i64 k] := rng
                have z_ra : (v1.heap.size) < v4.heap.size := (by omega); replace ra : v4.rangeAt (v1.heap.size) 0 [.int .i64 xi, .int .i64 3, .int .i64 0, .int .i64 ((k + 1) % M)] := rng
                have z_rb : (v2.heap.size) < v4.heap.size := (by omega); replace rb : v4.rangeAt (v2.heap.size) 0 [.int .i64 yi, .int .i64 3, .int .i64 0, .int .i64 ((k + 1) % M)] := rng
                have z_rc : (v3.heap.size) < v4.heap.size := (by omega); replace rc : v4.rangeAt (v3.heap.size) 0 [.int .i64 xi, .int .i64 3, .int .i64 0, .int .i64 ((k + 1) % M)] := rng
                clear hb
                replace rx_0 := range_cell rx 0 rfl; replace rx_1 := range_cell rx 1 rfl; replace rx_2 := range_cell rx 2 rfl; replace rx_3 := range_cell rx 3 rfl
                replace ry_0 := range_cell ry 0 rfl; replace ry_1 := range_cell ry 1 rfl; replace ry_2 := range_cell ry 2 rfl; replace ry_3 := range_cell ry 3 rfl
                replace rh_0 := range_cell rh 0 rfl; replace rh_1 := range_cell rh 1 rfl; replace rh_2 := range_cell rh 2 rfl; replace rh_3 := range_cell rh 3 rfl
                replace rs_0 := range_cell rs 0 rfl; replace rs_1 := range_cell rs 1 rfl; replace rs_2 := range_cell rs 2 rfl; replace rs_3 := range_cell rs 3 rfl
                replace ra_0 := range_cell ra 0 rfl; replace ra_1 := range_cell ra 1 rfl; replace ra_2 := range_cell ra 2 rfl; replace ra_3 := range_cell ra 3 rfl
                replace rb_0 := range_cell rb 0 rfl; replace rb_1 := range_cell rb 1 rfl; replace rb_2 := range_cell rb 2 rfl; replace rb_3 := range_cell rb 3 rfl
                replace rc_0 := range_cell rc 0 rfl; replace rc_1 := range_cell rc 1 rfl; replace rc_2 := range_cell rc 2 rfl; replace rc_3 := range_cell rc 3 rfl
                go_wp2_with fail
                refine (awake9_any _).mono ?_; rintro e v5 ⟨rfl, hb⟩; have hz := hb.size; (try simp only [World.size_alloc, World.heap_drewN, World.size_drew, World.size_setCell] at hz)
                have HB7 := Lib.hid (show Below w.heap.size w v5 from by have := HB6.out; exact bel)
                have z_rx : (bx) < v5.heap.size := (by omega); replace rx : v5.rangeAt (bx) 0 [.int .i64 xi, .int .i64 2, .int .i64 xc, .int .i64 xp] := rng
                have z_ry : (bd) < v5.heap.size := (by omega); replace ry : v5.rangeAt (bd) 0 [.int .i64 yi, .int .i64 2, .int .i64 yc, .int .i64 yp] := rng
                have z_rh : (wc.heap.size) < v5.heap.size := (by omega); replace rh : v5.rangeAt (wc.heap.size) 0 [.int .i64 2, .int .i64 k, .int .i64 0, .int .i64 0] := rng
                have z_rs : (wc.heap.size + 1) < v5.heap.size := (by omega); replace rs : v5.rangeAt (wc.heap.size + 1) 0 [.int .i64 0, .int .i64 0, .int .i64 1, .int .i64 k] := rng
                have z_ra : (v1.heap.size) < v5.heap.size := (by omega); replace ra : v5.rangeAt (v1.heap.size) 0 [.int .i64 xi, .int .i64 3, .int .i64 0, .int .i64 ((k + 1) % M)] := rng
                have z_rb : (v2.heap.size) < v5.heap.size := (by omega); replace rb : v5.rangeAt (v2.heap.size) 0 [.int .i64 yi, .int .i64 3, .int .i64 0, .int .i64 ((k + 1) % M)] := rng
                have z_rc : (v3.heap.size) < v5.heap.size := (by omega); replace rc : v5.rangeAt (v3.heap.size) 0 [.int .i64 xi, .int .i64 3, .int .i64 0, .int .i64 ((k + 1) % M)] := rng
                have z_rd : (v4.heap.size) < v5.heap.size := (by omega); replace rd : v5.rangeAt (v4.heap.size) 0 [.int .i64 yi, .int .i64 3, .int .i64 0, .int .i64 ((k + 1) % M)] := rng
                clear hb
                replace rx_0 := range_cell rx 0 rfl; replace rx_1 := range_cell rx 1 rfl; replace rx_2 := range_cell rx 2 rfl; replace rx_3 := range_cell rx 3 rfl
                replace ry_0 := range_cell ry 0 rfl; replace ry_1 := range_cell ry 1 rfl; replace ry_2 := range_cell ry 2 rfl; replace ry_3 := range_cell ry 3 rfl
                replace rh_0 := range_cell rh 0 rfl; replace rh_1 := range_cell rh 1 rfl; replace rh_2 := range_cell rh 2 rfl; replace rh_3 := range_cell rh 3 rfl
                replace rs_0 := range_cell rs 0 rfl; replace rs_1 := range_cell rs 1 rfl; replace rs_2 := range_cell rs 2 rfl; replace rs_3 := range_cell rs 3 rfl
                replace ra_0 := range_cell ra 0 rfl; replace ra_1 := range_cell ra 1 rfl; replace ra_2 := range_cell ra 2 rfl; replace ra_3 := range_cell ra 3 rfl
                replace rb_0 := range_cell rb 0 rfl; replace rb_1 := range_cell rb 1 rfl; replace rb_2 := range_cell rb 2 rfl; replace rb_3 := range_cell rb 3 rfl
                replace rc_0 := range_cell rc 0 rfl; replace rc_1 := range_cell rc 1 rfl; replace rc_2 := range_cell rc 2 rfl; replace rc_3 := range_cell rc 3 rfl
                replace rd_0 := range_cell rd 0 rfl; replace rd_1 := range_cell rd 1 rfl; replace rd_2 := range_cell rd 2 rfl; replace rd_3 := range_cell rd 3 rfl
                have := HB7.out
                go_wp2
                go_ret
                exact ⟨rfl, bel⟩
          · have q : (ym != 2) = true := by simp [hy2]
            subst hx2
            clear hy2
            go_wp2_with fail
            refine (awake9_any _).mono ?_; rintro e v3 ⟨rfl, hb⟩; have hz := hb.size; (try simp only [World.size_alloc, World.heap_drewN, World.size_drew, World.size_setCell] at hz)
            have := HB4.out
            go_wp2
            go_ret
            exact ⟨rfl, bel⟩
        · have q : (xm != 2) = true := by simp [hx2]
          clear hx2
          go_wp2_with fail
          refine (awake9_any _).mono ?_; rintro e v3 ⟨rfl, hb⟩; have hz := hb.size; (try simp only [World.size_alloc, World.heap_drewN, World.size_drew, World.size_setCell] at hz)
          have := HB4.out
          go_wp2
          go_ret
          exact ⟨rfl, bel⟩
end Go.Proofs.Ytjkdmnodamcjnaa
