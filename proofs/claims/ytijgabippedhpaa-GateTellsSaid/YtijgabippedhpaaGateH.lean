
import Derived.Test.YtijgabippedhpaaRows
import Derived.Test.YtijgabippedhpaaGateG
namespace Go.Proofs.Ytijgabippedhpaa
set_option linter.unusedVariables false
set_option linter.unusedSimpArgs false
open Go.ChangeShapes Go.WideShapes Go.RowKit

/-! What the program's calls must answer. -/
def CGFits : Prop := ∀ (n : Int) (va : Value) (m : Nat) (l : Nat → Int) (w : World), Bd n → m ≤ 1000 → Prs w va m l → Calls Try.prog 14 #[.int .i64 n, va] w fun e w' => e = .returned (.bool (Gate.fits n m l)) ∧ Below w.heap.size w w'
def CGNote : Prop := ∀ (n : Int) (f : Nat → Int) (va : Value) (m : Nat) (l : Nat → Int) (w : World), Bd n → Bd12 f → m ≤ 1000 → Prs w va m l → Calls Try.prog 8 #[.int .i64 n, .agg #[.int .i64 (f 0), .int .i64 (f 1), .int .i64 (f 2), .int .i64 (f 3), .int .i64 (f 4), .int .i64 (f 5), .int .i64 (f 6), .int .i64 (f 7), .int .i64 (f 8), .int .i64 (f 9), .int .i64 (f 10), .int .i64 (f 11)], va] w fun e w' => e = .returned (.tuple #[.agg #[.int .i64 (noted n f m l 0), .int .i64 (noted n f m l 1), .int .i64 (noted n f m l 2), .int .i64 (noted n f m l 3), .int .i64 (noted n f m l 4), .int .i64 (noted n f m l 5), .int .i64 (noted n f m l 6), .int .i64 (noted n f m l 7), .int .i64 (noted n f m l 8), .int .i64 (noted n f m l 9), .int .i64 (noted n f m l 10), .int .i64 (noted n f m l 11)], .int .i64 (Gate.wrong n f m l)]) ∧ Below w.heap.size w w'
def CGSettle : Prop := ∀ (n : Int) (f : Nat → Int) (w : World), Bd n → Bd12 f → Calls Try.prog 10 #[.int .i64 n, .agg #[.int .i64 (f 0), .int .i64 (f 1), .int .i64 (f 2), .int .i64 (f 3), .int .i64 (f 4), .int .i64 (f 5), .int .i64 (f 6), .int .i64 (f 7), .int .i64 (f 8), .int .i64 (f 9), .int .i64 (f 10), .int .i64 (f 11)]] w fun e w' => e = .returned (.tuple #[.agg #[.int .i64 (Gate.settle n f 0), .int .i64 (Gate.settle n f 1), .int .i64 (Gate.settle n f 2), .int .i64 (Gate.settle n f 3), .int .i64 (Gate.settle n f 4), .int .i64 (Gate.settle n f 5), .int .i64 (Gate.settle n f 6), .int .i64 (Gate.settle n f 7), .int .i64 (Gate.settle n f 8), .int .i64 (Gate.settle n f 9), .int .i64 (Gate.settle n f 10), .int .i64 (Gate.settle n f 11)], .int .i64 (Vote.tickErr n f)]) ∧ Below w.heap.size w w'
def CGRelay : Prop := ∀ (n : Int) (f : Nat → Int) (va : Value) (m : Nat) (l : Nat → Int) (w : World), Bd n → Bd12 f → m ≤ 1000 → Prs w va m l → Calls Try.prog 12 #[.int .i64 n, .agg #[.int .i64 (f 0), .int .i64 (f 1), .int .i64 (f 2), .int .i64 (f 3), .int .i64 (f 4), .int .i64 (f 5), .int .i64 (f 6), .int .i64 (f 7), .int .i64 (f 8), .int .i64 (f 9), .int .i64 (f 10), .int .i64 (f 11)], va] w fun e w' => e = .returned (.tuple #[.agg #[.int .i64 (relayH n f m l 0), .int .i64 (relayH n f m l 1), .int .i64 (relayH n f m l 2), .int .i64 (relayH n f m l 3), .int .i64 (relayH n f m l 4), .int .i64 (relayH n f m l 5), .int .i64 (relayH n f m l 6), .int .i64 (relayH n f m l 7), .int .i64 (relayH n f m l 8), .int .i64 (relayH n f m l 9), .int .i64 (relayH n f m l 10), .int .i64 (relayH n f m l 11)], .agg #[.int .i64 (relayF n f m l 0), .int .i64 (relayF n f m l 1)], .int .i64 (Gate.wrong n f m l)]) ∧ Below w.heap.size w w'
def awL (j : Nat) : Int := if j = 2 then 1 else if j = 3 then 1 else if j = 4 then 1 else if j = 5 then 2 else 0
def awH (j : Nat) : Int := if j = 11 then 9 else 0
theorem awL_prs {w : World} {b : Nat} (h : w.rangeAt b 0 [.int .i64 0, .int .i64 0, .int .i64 1, .int .i64 1, .int .i64 1, .int .i64 2]) (hb : b < w.heap.size) : Prs w (.slice (some ⟨b, 0, none⟩) 3 3) 3 awL := by
  refine Or.inr ⟨b, 0, 3, rfl, hb, fun j hj => ?_⟩
  have h6 : j = 0 ∨ j = 1 ∨ j = 2 ∨ j = 3 ∨ j = 4 ∨ j = 5 := by omega
  rcases h6 with rfl | rfl | rfl | rfl | rfl | rfl
  · exact range_cell h 0 rfl
  · exact range_cell h 1 rfl
  · exact range_cell h 2 rfl
  · exact range_cell h 3 rfl
  · exact range_cell h 4 rfl
  · exact range_cell h 5 rfl
theorem awH_bd : Bd12 awH := by intro j hj; unfold awH; split <;> omega
set_option maxHeartbeats 2000000 in
theorem awake12_of (hF : CGFits) (hS : CGSettle) (hR : CGRelay) (w : World) :
    Calls Try.prog 7 #[] w fun e w' => e = .returned (.bool true) ∧ Below w.heap.size w w' := by
  have b3 : Bd 3 := by unfold Bd; omega
  have FR := Lib.hid (fun w => refVFresh_any 3 w)
  have RE := Lib.hid (fun va w hl => hR 3 (Vote.fresh 3) va 3 awL w b3 (fresh_bd 3) (by decide) hl)
  have SE := Lib.hid (fun w => hS 3 awH w b3 awH_bd)
  have FI := Lib.hid (fun w => hF 3 (.slice none 0 0) 0 awL w b3 (by decide) (Or.inl ⟨rfl, _, _, rfl⟩))
  rw [show Gate.wrong 3 (Vote.fresh 3) 3 awL = 0 from by decide +kernel, show relayF 3 (Vote.fresh 3) 3 awL 0 = 1 from by decide +kernel, show relayF 3 (Vote.fresh 3) 3 awL 1 = 1 from by decide +kernel] at RE
  rw [show Vote.tickErr 3 awH = 1 from by decide +kernel] at SE
  rw [show Gate.fits 3 0 awL = false from by decide +kernel] at FI
  have E8 : Hid (relayH 3 (Vote.fresh 3) 3 awL 8 = 1) := (by decide +kernel : relayH 3 (Vote.fresh 3) 3 awL 8 = 1)
  have E9 : Hid (relayH 3 (Vote.fresh 3) 3 awL 9 = 0) := (by decide +kernel : relayH 3 (Vote.fresh 3) 3 awL 9 = 0)
  generalize relayH 3 (Vote.fresh 3) 3 awL = k at *
  generalize Vote.fresh 3 = g at *
  generalize Vote.err 3 = er at *
  generalize Gate.settle 3 awH = sh at *
  simp only [show awH 0 = 0 from rfl, show awH 1 = 0 from rfl, show awH 2 = 0 from rfl, show awH 3 = 0 from rfl, show awH 4 = 0 from rfl, show awH 5 = 0 from rfl, show awH 6 = 0 from rfl, show awH 7 = 0 from rfl, show awH 8 = 0 from rfl, show awH 9 = 0 from rfl, show awH 10 = 0 from rfl, show awH 11 = 9 from rfl] at SE
  clear hF hS hR
  go_enter Try.func7, Try.ntmps7
  go_wp2_with fail
  refine (FR.out _).mono ?_; rintro e w1 ⟨rfl, hb⟩; have hz := hb.size; (try simp only [World.size_alloc, World.heap_drewN, World.size_drew, World.size_setCell] at hz)
  have HB1 := Lib.hid (show Below w.heap.size w w1 from bel)
  clear hb
  go_wp2_with fail
  refine (RE.out _ _ (awL_prs (b := w1.heap.size + 1) rng (by simp))).mono ?_
  rintro e w2 ⟨rfl, hb⟩
  have hz := hb.size
  (try simp only [World.size_alloc, World.heap_drewN, World.size_drew, World.size_setCell] at hz)
  have HB2 := Lib.hid (show Below w.heap.size w w2 from by have := HB1.out; exact bel)
  clear hb
  go_wp2_with fail
  have HK := Lib.hid ((Ints.box w2 k 24).alloc (.cells #[.int .i64 1, .int .i64 1] 32))
  have HF := Lib.hid (Ints.two (w2.alloc (.cells #[.int .i64 (k 0), .int .i64 (k 1), .int .i64 (k 2), .int .i64 (k 3), .int .i64 (k 4), .int .i64 (k 5), .int .i64 (k 6), .int .i64 (k 7), .int .i64 (k 8), .int .i64 (k 9), .int .i64 (k 10), .int .i64 (k 11)] 24)) 1 1 32 (fun _ => 1) rfl rfl)
  refine (SE.out _).mono ?_; rintro e w3 ⟨rfl, hb⟩; have hz := hb.size; (try simp only [World.size_alloc, World.heap_drewN, World.size_drew, World.size_setCell] at hz)
  have HB3 := Lib.hid (show Below w.heap.size w w3 from by have := HB2.out; exact bel)
  have HK3 := Lib.hid (HK.out.below hb)
  have HF3 := Lib.hid (HF.out.below hb)
  rw [World.size_alloc] at HF3
  clear hb HK HF
  have c8 := (HK3.out.2 8 (by decide)).1
  have c9 := (HK3.out.2 9 (by decide)).1
  rw [E8.out] at c8
  rw [E9.out] at c9
  have d0 := (HF3.out.2 0 (by decide)).1
  have d1 := (HF3.out.2 1 (by decide)).1
  have z0 := HF3.out.1
  have z1 := HK3.out.1
  go_wp2_with fail
  refine (FI.out _).mono ?_; rintro e w4 ⟨rfl, hb⟩; have hz := hb.size; (try simp only [World.size_alloc, World.heap_drewN, World.size_drew, World.size_setCell] at hz)
  have := HB3.out
  go_wp2
  go_ret
  exact ⟨rfl, bel⟩
end Go.Proofs.Ytijgabippedhpaa
