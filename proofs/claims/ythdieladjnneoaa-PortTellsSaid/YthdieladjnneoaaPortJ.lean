
import Derived.Test.YthdieladjnneoaaRows
import Derived.Test.YthdieladjnneoaaPortI
import Derived.Test.YthdieladjnneoaaWireA
namespace Go.Proofs.Ythdieladjnneoaa
set_option linter.unusedVariables false
set_option linter.unusedSimpArgs false
open Go.ChangeShapes Go.WideShapes Go.RowKit

theorem Prs.form {w : World} {v : Value} {n : Nat} {f : Nat → Int} (h : Prs w v n f) : ∃ p cap, v = .slice p n cap := by
  rcases h with ⟨rfl, p, c, rfl⟩ | ⟨b, o, cap, rfl, -, -⟩
  · exact ⟨_, _, rfl⟩
  · exact ⟨_, _, rfl⟩
theorem Strs.form {w : World} {v : Value} {n : Nat} {f : Nat → ByteArray} (h : Strs w v n f) : ∃ p cap, v = .slice p n cap := by
  rcases h with ⟨rfl, p, c, rfl⟩ | ⟨b, o, cap, rfl, -, -⟩
  · exact ⟨_, _, rfl⟩
  · exact ⟨_, _, rfl⟩
def awS (x : ByteArray) (j : Nat) : ByteArray := if j = 0 then ⟨#[]⟩ else x
theorem awS_size (j : Nat) : (awS ⟨(Wire.put 1 2).toArray⟩ j).size ≤ maxLen := by
  unfold awS maxLen
  by_cases h : j = 0
  · rw [if_pos h]; decide
  · rw [if_neg h]; exact Nat.le_trans (show (ByteArray.mk (Wire.put 1 2).toArray).size ≤ 7 from by decide +kernel) (by decide)
def awF (j : Nat) : Int := if j = 4 then 1 else if j = 5 then 2 else 0
theorem awS_take (j : Nat) (h : j < 2 * 3) : takeK (awS ⟨(Wire.put 1 2).toArray⟩) 3 j = awF j := by
  have h6 : j = 0 ∨ j = 1 ∨ j = 2 ∨ j = 3 ∨ j = 4 ∨ j = 5 := by omega
  rcases h6 with rfl | rfl | rfl | rfl | rfl | rfl <;> decide +kernel
theorem strs3 {w : World} {b : Nat} {x : ByteArray} (h : w.rangeAt b 0 [.string ⟨#[]⟩, .string x, .string x]) (hb : b < w.heap.size) : Strs w (.slice (some ⟨b, 0, none⟩) 3 3) 3 (awS x) := by
  refine Or.inr ⟨b, 0, 3, rfl, hb, fun j hj => ?_⟩
  have h3 : j = 0 ∨ j = 1 ∨ j = 2 := by omega
  rcases h3 with rfl | rfl | rfl
  · exact range_cell h 0 rfl
  · exact range_cell h 1 rfl
  · exact range_cell h 2 rfl
theorem prs3 {w : World} {b : Nat} (h : w.rangeAt b 0 [.int .i64 0, .int .i64 0, .int .i64 0, .int .i64 0, .int .i64 1, .int .i64 2]) (hb : b < w.heap.size) : Prs w (.slice (some ⟨b, 0, none⟩) 3 3) 3 awF := by
  refine Or.inr ⟨b, 0, 3, rfl, hb, fun j hj => ?_⟩
  have h6 : j = 0 ∨ j = 1 ∨ j = 2 ∨ j = 3 ∨ j = 4 ∨ j = 5 := by omega
  rcases h6 with rfl | rfl | rfl | rfl | rfl | rfl
  · exact range_cell h 0 rfl
  · exact range_cell h 1 rfl
  · exact range_cell h 2 rfl
  · exact range_cell h 3 rfl
  · exact range_cell h 4 rfl
  · exact range_cell h 5 rfl
theorem none_strs (w : World) (s : Nat → ByteArray) : Strs w (.slice none 0 0) 0 s := Or.inl ⟨rfl, _, _, rfl⟩
set_option maxHeartbeats 1000000 in
theorem awake10_any (w : World) :
    Calls Try.prog 7 #[] w fun e w' => e = .returned (.bool true) ∧ Below w.heap.size w w' := by
  have RP := Lib.hid (fun w => refPut_any 1 2 w)
  have HSZ := Lib.hid awS_size
  have HTK := Lib.hid awS_take
  generalize (ByteArray.mk (Wire.put 1 2).toArray) = x at *
  go_enter Try.func7, Try.ntmps7
  go_wp2_with fail
  refine (RP.out _).mono ?_; rintro e w1 ⟨rfl, hb⟩; have hz := hb.size; (try simp only [World.size_alloc, World.heap_drewN, World.size_drew, World.size_setCell] at hz)
  have HB1 := Lib.hid (show Below w.heap.size w w1 from bel)
  clear hb
  go_wp2_with fail
  refine (RP.out _).mono ?_; rintro e w2 ⟨rfl, hb⟩; have hz := hb.size; (try simp only [World.size_alloc, World.heap_drewN, World.size_drew, World.size_setCell] at hz)
  have HB2 := Lib.hid (show Below w.heap.size w w2 from by have := HB1.out; exact bel)
  clear hb
  go_wp2_with fail
  refine (Take_any 3 _ 3 (awS x) _ (by decide) (fun j _ => HSZ.out j) (strs3 (b := w2.heap.size) rng (by simp))).mono ?_
  rintro e w3 ⟨⟨y, rfl, hP⟩, hb⟩
  have hz := hb.size
  (try simp only [World.size_alloc, World.heap_drewN, World.size_drew, World.size_setCell] at hz)
  have HB3 := Lib.hid (show Below w.heap.size w w3 from by have := HB2.out; exact bel)
  rw [show takeLen 3 3 = 3 from by decide +kernel] at hP
  have HP3 := Lib.hid (hP.like HTK.out)
  rw [show takeErr 3 3 = 0 from by decide +kernel]
  clear hb hP
  go_wp2_with fail
  refine (Take_any 3 _ 0 (awS x) _ (by decide) (fun j _ => HSZ.out j) (none_strs _ _)).mono ?_
  rintro e w4 ⟨⟨z, rfl, -⟩, hb⟩
  have hz := hb.size
  (try simp only [World.size_alloc, World.heap_drewN, World.size_drew, World.size_setCell] at hz)
  have HB4 := Lib.hid (show Below w.heap.size w w4 from by have := HB3.out; exact bel)
  have HP4 := Lib.hid (HP3.out.below hb)
  rw [show takeErr 3 0 = 2 from by decide +kernel]
  clear hb
  go_wp2_with fail
  refine (refSame_any _ _ 3 3 awF awF _ (by decide) (by decide) (HP4.out.below bel) (prs3 (b := w4.heap.size) rng (by simp))).mono ?_
  rintro e w5 ⟨rfl, hb⟩
  rw [same_yes (fun j _ => rfl)]
  have := HB4.out
  go_wp2
  go_ret
  exact ⟨rfl, bel⟩
end Go.Proofs.Ythdieladjnneoaa
