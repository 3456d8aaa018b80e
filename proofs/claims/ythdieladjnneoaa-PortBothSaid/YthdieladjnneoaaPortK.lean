
import Derived.Test.YthdieladjnneoaaRows
import Derived.Test.YthdieladjnneoaaPortJ
namespace Go.Proofs.Ythdieladjnneoaa
set_option linter.unusedVariables false
set_option linter.unusedSimpArgs false
open Go.ChangeShapes Go.WideShapes Go.RowKit

theorem prs_all {f g : Nat → Int} (n : Nat) : sameB n n (bothK f g n) (bothK f g n) = true := same_yes (fun _ _ => rfl)
set_option maxHeartbeats 4000000 in
theorem portTells_any (n : Int) (v va vb : Value) (m na nb : Nat) (s : Nat → ByteArray) (f g : Nat → Int) (w : World) (hm : m ≤ maxLen) (hna : na ≤ maxLen) (hnb : nb ≤ maxLen) (hs : ∀ j, j < m → (s j).size ≤ maxLen)
    (hv : Strs w v m s) (ha : Prs w va na f) (hb : Prs w vb nb g) :
    Calls Try.prog 3 #[.agg #[.int .i64 n, v, va, vb]] w fun e w' => e = .returned (.bool true) ∧ Below w.heap.size w w' := by
  obtain ⟨p0, c0, rfl⟩ := hv.form
  obtain ⟨p1, c1, rfl⟩ := ha.form
  obtain ⟨p2, c2, rfl⟩ := hb.form
  have HV := Lib.hid hv
  have HA := Lib.hid ha
  have HG := Lib.hid hb
  clear hv ha hb
  have HM := Lib.hid (And.intro hm (And.intro hna hnb))
  have HS := Lib.hid hs
  clear hm hna hnb hs
  go_enter Try.func3, Try.ntmps3
  go_wp2_with fail
  go_region
  go_wp2_with fail
  refine (short_any _ m s _ HM.out.1 (HV.out.below bel)).mono ?_
  rintro e w1 ⟨⟨sb, rfl, hsb⟩, hb⟩
  have hz := hb.size
  (try simp only [World.size_alloc, World.heap_drewN, World.size_drew, World.size_setCell] at hz)
  have HB1 := Lib.hid (show Below w.heap.size w w1 from bel)
  clear hb
  cases sb
  · go_wp2_with fail
    refine (awake10_any _).mono ?_; rintro e w2 ⟨rfl, hb⟩; have hz := hb.size; (try simp only [World.size_alloc, World.heap_drewN, World.size_drew, World.size_setCell] at hz)
    have := HB1.out
    go_wp2
    go_ret
    exact ⟨rfl, bel⟩
  have h20 := hsb rfl
  clear hsb
  by_cases la : (na : Int) ≤ 20
  · by_cases lb : (nb : Int) ≤ 20
    · have hna : na ≤ 20 := by omega
      have hnb : nb ≤ 20 := by omega
      go_wp2_with fail
      refine (Take_any n _ m s _ HM.out.1 HS.out (HV.out.below HB1.out)).mono ?_
      rintro e w2 ⟨⟨x, rfl, hx⟩, hb⟩
      have hz := hb.size
      have HB2 := Lib.hid (show Below w.heap.size w w2 from by have := HB1.out; exact bel)
      have HX2 := Lib.hid hx
      clear hb hx
      go_wp2_with fail
      refine (refTake_any n _ m s _ HM.out.1 (HV.out.below HB2.out)).mono ?_
      rintro e w3 ⟨⟨y, rfl, hy⟩, hb⟩
      have hz := hb.size
      have HB3 := Lib.hid (show Below w.heap.size w w3 from by have := HB2.out; exact bel)
      have HX3 := Lib.hid (HX2.out.below hb)
      have HY3 := Lib.hid hy
      clear hb hy HX2
      go_wp2_with fail
      refine (Both_any _ _ na nb f g _ (by omega) HM.out.2.2 (HA.out.below HB3.out) (HG.out.below HB3.out)).mono ?_
      rintro e w4 ⟨⟨c, rfl, hc⟩, hb⟩
      have hz := hb.size
      have HB4 := Lib.hid (show Below w.heap.size w w4 from by have := HB3.out; exact bel)
      have HX4 := Lib.hid (HX3.out.below hb)
      have HY4 := Lib.hid (HY3.out.below hb)
      have HC4 := Lib.hid hc
      clear hb hc HX3 HY3
      go_wp2_with fail
      refine (refBoth_any _ _ na nb f g _ (by omega) HM.out.2.2 (HA.out.below HB4.out) (HG.out.below HB4.out)).mono ?_
      rintro e w5 ⟨⟨d, rfl, hd⟩, hb⟩
      have hz := hb.size
      have HB5 := Lib.hid (show Below w.heap.size w w5 from by have := HB4.out; exact bel)
      have HX5 := Lib.hid (HX4.out.below hb)
      have HY5 := Lib.hid (HY4.out.below hb)
      have HC5 := Lib.hid (HC4.out.below hb)
      have HD5 := Lib.hid hd
      clear hb hd HX4 HY4 HC4
      have hlT : takeLen n m ≤ 1000000 := by unfold takeLen; split <;> omega
      have hlB : bothLen na nb ≤ 1000000 := by unfold bothLen; split <;> omega
      go_wp2_with fail
      refine (awake10_any _).mono ?_; rintro e w6 ⟨rfl, hb⟩; have hz := hb.size; (try simp only [World.size_alloc, World.heap_drewN, World.size_drew, World.size_setCell] at hz)
      have HB6 := Lib.hid (show Below w.heap.size w w6 from by have := HB5.out; exact bel)
      have HX6 := Lib.hid (HX5.out.below hb)
      have HY6 := Lib.hid (HY5.out.below hb)
      have HC6 := Lib.hid (HC5.out.below hb)
      have HD6 := Lib.hid (HD5.out.below hb)
      clear hb HX5 HY5 HC5 HD5
      go_wp2_with fail
      refine (refSame_any _ _ _ _ _ _ _ hlT hlT HX6.out HY6.out).mono ?_
      rintro e w7 ⟨rfl, hb⟩
      rw [same_yes (fun _ _ => rfl)]
      have hz := hb.size
      have HB7 := Lib.hid (show Below w.heap.size w w7 from by have := HB6.out; exact bel)
      have HC7 := Lib.hid (HC6.out.below hb)
      have HD7 := Lib.hid (HD6.out.below hb)
      clear hb HX6 HY6 HC6 HD6
      go_wp2_with fail
      refine (refSame_any _ _ _ _ _ _ _ hlB hlB HC7.out HD7.out).mono ?_
      rintro e w8 ⟨rfl, hb⟩
      rw [same_yes (fun _ _ => rfl)]
      have hz := hb.size
      have HB8 := Lib.hid (show Below w.heap.size w w8 from by have := HB7.out; exact bel)
      clear hb HC7 HD7
      go_wp2_with fail
      refine (Same_any _ _ na nb f g _ (by omega) (by omega) (HA.out.below HB8.out) (HG.out.below HB8.out)).mono ?_
      rintro e w9 ⟨rfl, hb⟩
      have hz := hb.size
      have HB9 := Lib.hid (show Below w.heap.size w w9 from by have := HB8.out; exact bel)
      clear hb
      go_wp2_with fail
      refine (refSame_any _ _ na nb f g _ (by omega) (by omega) (HA.out.below HB9.out) (HG.out.below HB9.out)).mono ?_
      rintro e w10 ⟨rfl, hb⟩
      have hz := hb.size
      have := HB9.out
      go_wp2
      go_ret
      exact ⟨rfl, bel⟩
    · go_wp2_with fail
      refine (awake10_any _).mono ?_; rintro e w2 ⟨rfl, hb⟩; have hz := hb.size; (try simp only [World.size_alloc, World.heap_drewN, World.size_drew, World.size_setCell] at hz)
      have := HB1.out
      go_wp2
      go_ret
      exact ⟨rfl, bel⟩
  · go_wp2_with fail
    refine (awake10_any _).mono ?_; rintro e w2 ⟨rfl, hb⟩; have hz := hb.size; (try simp only [World.size_alloc, World.heap_drewN, World.size_drew, World.size_setCell] at hz)
    have := HB1.out
    go_wp2
    go_ret
    exact ⟨rfl, bel⟩
end Go.Proofs.Ythdieladjnneoaa
