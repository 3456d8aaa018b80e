
import Derived.Test.YtijgabippedhpaaRows
import Derived.Test.YtijgabippedhpaaGateN
namespace Go.Proofs.Ytijgabippedhpaa
set_option linter.unusedVariables false
set_option linter.unusedSimpArgs false
open Go.ChangeShapes Go.WideShapes Go.RowKit

theorem gateHolds_out (hF : CGFits) (hS : CGSettle) (hR : CGRelay) (n : Nat) (hn : n < 256) (M : Nat) (hM : 3 + (n : Int) % 6 = M) (f : Nat → Int) (va : Value) (m : Nat) (l : Nat → Int) (hm : m ≤ maxLen) (w : World) (hl : Prs w va m l) (h : ¬ (Vote.Ok M f ∧ Gate.Fits M m l)) :
    Calls Try.prog 4 #[.int .u8 n, .agg #[.int .i64 (f 0), .int .i64 (f 1), .int .i64 (f 2), .int .i64 (f 3), .int .i64 (f 4), .int .i64 (f 5), .int .i64 (f 6), .int .i64 (f 7), .int .i64 (f 8), .int .i64 (f 9), .int .i64 (f 10), .int .i64 (f 11)], va] w fun e w' => e = .returned (.bool true) ∧ Below w.heap.size w w' := by
  obtain ⟨p1, c1, rfl⟩ := hl.form
  have AW := Lib.hid (awake12_of hF hS hR)
  have RR := Lib.hid (fun w => refVRight_any M f w)
  have FF := Lib.hid (fun w hl => refGFits_any M (.slice p1 m c1) m l w hm hl)
  have HL := Lib.hid hl
  clear hF hS hR hl
  by_cases h20 : (m : Int) ≤ 20
  · by_cases hok : Vote.Ok M f
    · have hfit : ¬ Gate.Fits M m l := fun q => h ⟨hok, q⟩
      rw [Vote.ok_iff.2 hok] at RR
      rw [Gate.fits_no hfit] at FF
      clear h hok hfit
      go_enter Try.func4, Try.ntmps4
      go_wp2_with fail
      refine (RR.out _).mono ?_; rintro e w1 ⟨rfl, hb⟩; have hz := hb.size; (try simp only [World.size_alloc, World.heap_drewN, World.size_drew, World.size_setCell] at hz)
      have HB1 := Lib.hid (show Below w.heap.size w w1 from bel)
      clear hb
      go_wp2_with fail
      refine (FF.out _ (HL.out.below HB1.out)).mono ?_; rintro e w2 ⟨rfl, hb⟩; have hz := hb.size; (try simp only [World.size_alloc, World.heap_drewN, World.size_drew, World.size_setCell] at hz)
      have HB2 := Lib.hid (show Below w.heap.size w w2 from by have := HB1.out; exact bel)
      clear hb
      go_wp2_with fail
      refine (AW.out _).mono ?_; rintro e w3 ⟨rfl, hb⟩; have hz := hb.size; (try simp only [World.size_alloc, World.heap_drewN, World.size_drew, World.size_setCell] at hz)
      have := HB2.out
      go_wp2
      go_ret
      exact ⟨rfl, bel⟩
    · rw [Vote.ok_no hok] at RR
      clear h hok
      go_enter Try.func4, Try.ntmps4
      go_wp2_with fail
      refine (RR.out _).mono ?_; rintro e w1 ⟨rfl, hb⟩; have hz := hb.size; (try simp only [World.size_alloc, World.heap_drewN, World.size_drew, World.size_setCell] at hz)
      have HB1 := Lib.hid (show Below w.heap.size w w1 from bel)
      clear hb
      go_wp2_with fail
      refine (AW.out _).mono ?_; rintro e w3 ⟨rfl, hb⟩; have hz := hb.size; (try simp only [World.size_alloc, World.heap_drewN, World.size_drew, World.size_setCell] at hz)
      have := HB1.out
      go_wp2
      go_ret
      exact ⟨rfl, bel⟩
  · clear h
    go_enter Try.func4, Try.ntmps4
    go_wp2_with fail
    refine (AW.out _).mono ?_; rintro e w3 ⟨rfl, hb⟩; have hz := hb.size; (try simp only [World.size_alloc, World.heap_drewN, World.size_drew, World.size_setCell] at hz)
    go_wp2
    go_ret
    exact ⟨rfl, bel⟩
theorem gateNotes_out (hF : CGFits) (hS : CGSettle) (hR : CGRelay) (n : Nat) (hn : n < 256) (M : Nat) (hM : 3 + (n : Int) % 6 = M) (f : Nat → Int) (va : Value) (m : Nat) (l : Nat → Int) (hm : m ≤ maxLen) (w : World) (hl : Prs w va m l) (h : ¬ (Vote.Ok M f ∧ Gate.Fits M m l)) :
    Calls Try.prog 6 #[.int .u8 n, .agg #[.int .i64 (f 0), .int .i64 (f 1), .int .i64 (f 2), .int .i64 (f 3), .int .i64 (f 4), .int .i64 (f 5), .int .i64 (f 6), .int .i64 (f 7), .int .i64 (f 8), .int .i64 (f 9), .int .i64 (f 10), .int .i64 (f 11)], va] w fun e w' => e = .returned (.bool true) ∧ Below w.heap.size w w' := by
  obtain ⟨p1, c1, rfl⟩ := hl.form
  have AW := Lib.hid (awake12_of hF hS hR)
  have RR := Lib.hid (fun w => refVRight_any M f w)
  have FF := Lib.hid (fun w hl => refGFits_any M (.slice p1 m c1) m l w hm hl)
  have HL := Lib.hid hl
  clear hF hS hR hl
  by_cases h20 : (m : Int) ≤ 20
  · by_cases hok : Vote.Ok M f
    · have hfit : ¬ Gate.Fits M m l := fun q => h ⟨hok, q⟩
      rw [Vote.ok_iff.2 hok] at RR
      rw [Gate.fits_no hfit] at FF
      clear h hok hfit
      go_enter Try.func6, Try.ntmps6
      go_wp2_with fail
      refine (RR.out _).mono ?_; rintro e w1 ⟨rfl, hb⟩; have hz := hb.size; (try simp only [World.size_alloc, World.heap_drewN, World.size_drew, World.size_setCell] at hz)
      have HB1 := Lib.hid (show Below w.heap.size w w1 from bel)
      clear hb
      go_wp2_with fail
      refine (FF.out _ (HL.out.below HB1.out)).mono ?_; rintro e w2 ⟨rfl, hb⟩; have hz := hb.size; (try simp only [World.size_alloc, World.heap_drewN, World.size_drew, World.size_setCell] at hz)
      have HB2 := Lib.hid (show Below w.heap.size w w2 from by have := HB1.out; exact bel)
      clear hb
      go_wp2_with fail
      refine (AW.out _).mono ?_; rintro e w3 ⟨rfl, hb⟩; have hz := hb.size; (try simp only [World.size_alloc, World.heap_drewN, World.size_drew, World.size_setCell] at hz)
      have := HB2.out
      go_wp2
      go_ret
      exact ⟨rfl, bel⟩
    · rw [Vote.ok_no hok] at RR
      clear h hok
      go_enter Try.func6, Try.ntmps6
      go_wp2_with fail
      refine (RR.out _).mono ?_; rintro e w1 ⟨rfl, hb⟩; have hz := hb.size; (try simp only [World.size_alloc, World.heap_drewN, World.size_drew, World.size_setCell] at hz)
      have HB1 := Lib.hid (show Below w.heap.size w w1 from bel)
      clear hb
      go_wp2_with fail
      refine (AW.out _).mono ?_; rintro e w3 ⟨rfl, hb⟩; have hz := hb.size; (try simp only [World.size_alloc, World.heap_drewN, World.size_drew, World.size_setCell] at hz)
      have := HB1.out
      go_wp2
      go_ret
      exact ⟨rfl, bel⟩
  · clear h
    go_enter Try.func6, Try.ntmps6
    go_wp2_with fail
    refine (AW.out _).mono ?_; rintro e w3 ⟨rfl, hb⟩; have hz := hb.size; (try simp only [World.size_alloc, World.heap_drewN, World.size_drew, World.size_setCell] at hz)
    go_wp2
    go_ret
    exact ⟨rfl, bel⟩
theorem gateHolds_of (hF : CGFits) (hS : CGSettle) (hR : CGRelay) (n : Nat) (hn : n < 256) (f : Nat → Int) (hf : Bd12 f) (va : Value) (m : Nat) (l : Nat → Int) (hm : m ≤ maxLen) (w : World) (hl : Prs w va m l) :
    Calls Try.prog 4 #[.int .u8 n, .agg #[.int .i64 (f 0), .int .i64 (f 1), .int .i64 (f 2), .int .i64 (f 3), .int .i64 (f 4), .int .i64 (f 5), .int .i64 (f 6), .int .i64 (f 7), .int .i64 (f 8), .int .i64 (f 9), .int .i64 (f 10), .int .i64 (f 11)], va] w fun e w' => e = .returned (.bool true) ∧ Below w.heap.size w w' := by
  obtain ⟨M, hM⟩ := Int.eq_ofNat_of_zero_le (show 0 ≤ 3 + (n : Int) % 6 by omega)
  by_cases h : Vote.Ok M f ∧ Gate.Fits M m l
  · obtain ⟨hok, hfit⟩ := h
    obtain rfl : m = M := by have := hfit.2.1; omega
    rcases way_all m f l m with q | q | q
    · exact gateHolds_none hF hS hR n hn m hM f hf va l w hl hok hfit q
    · exact gateHolds_info hF hS hR n hn m hM f hf va l w hl hok hfit q
    · exact gateHolds_cs hF hS hR n hn m hM f hf va l w hl hok hfit q
  · exact gateHolds_out hF hS hR n hn M hM f va m l hm w hl h
theorem gateNotes_of (hF : CGFits) (hN : CGNote) (hS : CGSettle) (hR : CGRelay) (n : Nat) (hn : n < 256) (f : Nat → Int) (hf : Bd12 f) (va : Value) (m : Nat) (l : Nat → Int) (hm : m ≤ maxLen) (w : World) (hl : Prs w va m l) :
    Calls Try.prog 6 #[.int .u8 n, .agg #[.int .i64 (f 0), .int .i64 (f 1), .int .i64 (f 2), .int .i64 (f 3), .int .i64 (f 4), .int .i64 (f 5), .int .i64 (f 6), .int .i64 (f 7), .int .i64 (f 8), .int .i64 (f 9), .int .i64 (f 10), .int .i64 (f 11)], va] w fun e w' => e = .returned (.bool true) ∧ Below w.heap.size w w' := by
  obtain ⟨M, hM⟩ := Int.eq_ofNat_of_zero_le (show 0 ≤ 3 + (n : Int) % 6 by omega)
  by_cases h : Vote.Ok M f ∧ Gate.Fits M m l
  · obtain ⟨hok, hfit⟩ := h
    obtain rfl : m = M := by have := hfit.2.1; omega
    exact gateNotes_in hF hN hS hR n hn m hM f hf va l w hl hok hfit
  · exact gateNotes_out hF hS hR n hn M hM f va m l hm w hl h
end Go.Proofs.Ytijgabippedhpaa
