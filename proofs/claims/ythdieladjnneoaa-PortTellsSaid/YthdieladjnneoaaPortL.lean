
import Derived.Test.YthdieladjnneoaaRows
import Derived.Test.YthdieladjnneoaaPortK
namespace Go.Proofs.Ythdieladjnneoaa
set_option linter.unusedVariables false
set_option linter.unusedSimpArgs false
open Go.ChangeShapes Go.WideShapes Go.RowKit

theorem Prs.some {w : World} {p : Option Addr} {n c : Nat} {f : Nat → Int} (h : Prs w (.slice p n c) n f) (hn : 0 < n) : ∃ b o, p = Option.some ⟨b, o, none⟩ ∧ b < w.heap.size ∧ ∀ j, j < 2 * n → w.cell? ⟨b, o + j, none⟩ = Option.some (.int .i64 (f j)) := by
  rcases h with ⟨h0, -⟩ | ⟨b, o, cap, e, hb, h⟩
  · omega
  · injection e with e _ _
    exact ⟨b, o, e, hb, h⟩
theorem both_self (f : Nat → Int) (n j : Nat) : bothK f f n j = f j := by
  unfold bothK bothF
  split
  · split <;> rfl
  · rfl
theorem both_none (f : Nat → Int) (n j : Nat) (h : j < 2 * n) : bothK (fun _ => 0) f n j = f j := by
  unfold bothK bothF
  rw [if_pos h, if_pos ⟨rfl, rfl⟩]
theorem both_yes {f g : Nat → Int} {n K : Nat} (h : K < n) (ht : f (K * 2) = 0 ∧ f (K * 2 + 1) = 0) : bothK f g n (K * 2) = g (K * 2) ∧ bothK f g n (K * 2 + 1) = g (K * 2 + 1) := by
  unfold bothK bothF
  constructor
  · rw [if_pos (by omega), show K * 2 / 2 * 2 = K * 2 by omega, if_pos ht]
  · rw [if_pos (by omega), show (K * 2 + 1) / 2 * 2 = K * 2 by omega, if_pos ht]
theorem both_no {f g : Nat → Int} {n K : Nat} (h : K < n) (ht : ¬ (f (K * 2) = 0 ∧ f (K * 2 + 1) = 0)) : bothK f g n (K * 2) = f (K * 2) ∧ bothK f g n (K * 2 + 1) = f (K * 2 + 1) := by
  unfold bothK bothF
  constructor
  · rw [if_pos (by omega), show K * 2 / 2 * 2 = K * 2 by omega, if_neg ht]
  · rw [if_pos (by omega), show (K * 2 + 1) / 2 * 2 = K * 2 by omega, if_neg ht]
set_option maxHeartbeats 4000000 in
theorem portBoth_any (va vb : Value) (na nb : Nat) (f g : Nat → Int) (w : World) (hna : na ≤ maxLen) (hnb : nb ≤ maxLen)
    (ha : Prs w va na f) (hb : Prs w vb nb g) :
    Calls Try.prog 5 #[va, vb] w fun e w' => e = .returned (.bool true) ∧ Below w.heap.size w w' := by
  obtain ⟨p1, c1, rfl⟩ := ha.form
  obtain ⟨p2, c2, rfl⟩ := hb.form
  by_cases la : (na : Int) ≤ 20
  · by_cases lb : na = nb
    · subst lb
      have HA := Lib.hid ha
      have HG := Lib.hid hb
      have hn : na ≤ 20 := by omega
      have hmk := make_pairs na (by omega)
      clear ha hb hnb
      go_enter Try.func5, Try.ntmps5
      go_wp2_with fail
      clear hmk
      have HN := Lib.hid ((Ints.made w (2 * na) 35).prs (cap := na))
      refine (Both_any _ _ na na f f _ (by omega) hna (HA.out.below bel) (HA.out.below bel)).mono ?_
      rintro e w1 ⟨⟨x, rfl, hx⟩, hb⟩
      rw [show bothErr na na = 0 from if_pos rfl]
      rw [show bothLen na na = na from if_pos rfl] at hx
      have hz := hb.size
      (try simp only [World.size_alloc, World.heap_drewN, World.size_drew, World.size_setCell] at hz)
      have HB1 := Lib.hid (show Below w.heap.size w w1 from bel)
      have HX1 := Lib.hid hx
      have HN1 := Lib.hid (HN.out.below hb)
      clear hb hx HN
      go_wp2_with fail
      refine (Both_any _ _ na na (fun _ => 0) f _ (by omega) hna HN1.out (HA.out.below HB1.out)).mono ?_
      rintro e w2 ⟨⟨y, rfl, hy⟩, hb⟩
      rw [show bothErr na na = 0 from if_pos rfl]
      rw [show bothLen na na = na from if_pos rfl] at hy
      have hz := hb.size
      have HB2 := Lib.hid (show Below w.heap.size w w2 from by have := HB1.out; exact bel)
      have HX2 := Lib.hid (HX1.out.below hb)
      have HY2 := Lib.hid hy
      clear hb hy HX1 HN1
      go_wp2_with fail
      refine (Both_any _ _ na na f g _ (by omega) hna (HA.out.below HB2.out) (HG.out.below HB2.out)).mono ?_
      rintro e w3 ⟨⟨z, rfl, hZ⟩, hb⟩
      rw [show bothErr na na = 0 from if_pos rfl]
      rw [show bothLen na na = na from if_pos rfl] at hZ
      have hz := hb.size
      have HB3 := Lib.hid (show Below w.heap.size w w3 from by have := HB2.out; exact bel)
      have HX3 := Lib.hid (HX2.out.below hb)
      have HY3 := Lib.hid (HY2.out.below hb)
      obtain ⟨p3, c3, rfl⟩ := hZ.form
      have HZ3 := Lib.hid hZ
      clear hb hZ HX2 HY2
      go_wp2_with fail
      refine (refSame_any _ _ na na _ f _ (by omega) (by omega) HX3.out (HA.out.below HB3.out)).mono ?_
      rintro e w4 ⟨rfl, hb⟩
      rw [same_yes (fun j _ => both_self f na j)]
      have hz := hb.size
      have HB4 := Lib.hid (show Below w.heap.size w w4 from by have := HB3.out; exact bel)
      have HY4 := Lib.hid (HY3.out.below hb)
      have HZ4 := Lib.hid (HZ3.out.below hb)
      clear hb HX3 HY3 HZ3
      go_wp2_with fail
      refine (refSame_any _ _ na na _ f _ (by omega) (by omega) HY4.out (HA.out.below HB4.out)).mono ?_
      rintro e w5 ⟨rfl, hb⟩
      rw [same_yes (fun j hj => both_none f na j hj)]
      have hz := hb.size
      have HB5 := Lib.hid (show Below w.heap.size w w5 from by have := HB4.out; exact bel)
      have HZ5 := Lib.hid (HZ4.out.below hb)
      have HA5 := Lib.hid (HA.out.below HB5.out)
      have HG5 := Lib.hid (HG.out.below HB5.out)
      clear hb HY4 HZ4 HA HG
      go_wp2_with fail
      go_loopw [12] (fun k wr => ∃ K : Nat, K ≤ na ∧ k = .int .i64 K ∧ Below w5.heap.size w5 wr) (fun k _ => na - (intOf k).toNat)
      case atStart => exact ⟨0, by omega, rfl, bel⟩
      case round =>
        obtain ⟨K, hK, rfl, hb⟩ := hrel
        have HB := Lib.hid hb
        by_cases hlt2 : K < na
        · have h1 : (K : Int) < na := by omega
          have h0 : (0 : Int) ≤ K := by omega
          obtain ⟨b1, o1, rfl, hl1, hc1⟩ := HA5.out.some (by omega)
          obtain ⟨b2, o2, rfl, hl2, hc2⟩ := HG5.out.some (by omega)
          obtain ⟨b3, o3, rfl, hl3, hc3⟩ := HZ5.out.some (by omega)
          obtain ⟨c0, c1⟩ := two_cells hc1 hb hlt2
          obtain ⟨d0, d1⟩ := two_cells hc2 hb hlt2
          obtain ⟨z0, z1⟩ := two_cells hc3 hb hlt2
          clear hb hc1 hc2 hc3
          by_cases ht : f (K * 2) = 0 ∧ f (K * 2 + 1) = 0
          · obtain ⟨q0, q1⟩ := both_yes (g := g) hlt2 ht
            rw [q0] at z0
            rw [q1] at z1
            obtain ⟨t0, t1⟩ := ht
            rw [t0] at c0
            rw [t1] at c1
            clear t0 t1 q0 q1
            generalize g (K * 2) = g0 at *
            generalize g (K * 2 + 1) = g1 at *
            by_cases e0 : g0 = 0
            · subst e0
              by_cases e1 : g1 = 0
              · subst e1
                go_wp2_with fail
                go_quiet (fail)
                go_wp2
                go_roundw
                case rel => exact ⟨K + 1, by omega, by go_num, by have := HB.out; exact bel⟩
                case measure => simp [intOf]; omega
              · have e1 : (g1 == 0) = false := by simp [e1]
                go_wp2_with fail
                go_quiet (fail)
                go_wp2
                go_roundw
                case rel => exact ⟨K + 1, by omega, by go_num, by have := HB.out; exact bel⟩
                case measure => simp [intOf]; omega
            · have e0 : (g0 == 0) = false := by simp [e0]
              go_wp2_with fail
              go_quiet (fail)
              go_wp2
              go_roundw
              case rel => exact ⟨K + 1, by omega, by go_num, by have := HB.out; exact bel⟩
              case measure => simp [intOf]; omega
          · obtain ⟨q0, q1⟩ := both_no (g := g) hlt2 ht
            rw [q0] at z0
            rw [q1] at z1
            clear ht q0 q1
            generalize f (K * 2) = f0 at *
            generalize f (K * 2 + 1) = f1 at *
            go_wp2_with fail
            go_quiet (fail)
            go_wp2
            go_roundw
            case rel => exact ⟨K + 1, by omega, by go_num, by have := HB.out; exact bel⟩
            case measure => simp [intOf]; omega
        · obtain rfl : K = na := by omega
          clear hb
          have HB6 := Lib.hid (show Below w.heap.size w wr from by have h5 := HB5.out; have h6 := HB.out; exact bthru h6 h5)
          go_wp2_with fail
          refine (awake10_any _).mono ?_; rintro e w6 ⟨rfl, hb⟩; have hz := hb.size; (try simp only [World.size_alloc, World.heap_drewN, World.size_drew, World.size_setCell] at hz)
          have := HB6.out
          go_wp2
          go_ret
          exact ⟨rfl, bel⟩
    · have q : ((na : Int) != nb) = true := by simp; omega
      clear ha hb
      go_enter Try.func5, Try.ntmps5
      go_wp2_with fail
      refine (awake10_any _).mono ?_; rintro e w2 ⟨rfl, hb⟩; have hz := hb.size; (try simp only [World.size_alloc, World.heap_drewN, World.size_drew, World.size_setCell] at hz)
      go_wp2
      go_ret
      exact ⟨rfl, bel⟩
  · clear ha hb
    go_enter Try.func5, Try.ntmps5
    go_wp2_with fail
    refine (awake10_any _).mono ?_; rintro e w2 ⟨rfl, hb⟩; have hz := hb.size; (try simp only [World.size_alloc, World.heap_drewN, World.size_drew, World.size_setCell] at hz)
    go_wp2
    go_ret
    exact ⟨rfl, bel⟩
end Go.Proofs.Ythdieladjnneoaa
