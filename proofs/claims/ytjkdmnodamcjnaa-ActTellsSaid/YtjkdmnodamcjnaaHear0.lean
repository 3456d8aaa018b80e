/-
  Plain mathematics of what is heard (no program in it).
-/
import Derived.Test.YtjkdmnodamcjnaaWire0
import Derived.Test.YtjkdmnodamcjnaaConf0
namespace Go.Proofs.Ytjkdmnodamcjnaa.Hear
set_option linter.unusedVariables false
set_option linter.unusedSimpArgs false

/-- Is a frame heard, of n nodes? -/
def kept (n k i : Int) : Bool := (k == 1 || k == 2) && decide (i < n)
def nk (n k i : Int) : Int := if kept n k i = true then k else 0
def ni (n k i : Int) : Int := if kept n k i = true then i else 0
/-- What is heard of bytes, of n nodes. -/
def hk (n : Int) (l : List UInt8) : Int := nk n (Wire.kind l) (Wire.id_ l)
def hi (n : Int) (l : List UInt8) : Int := ni n (Wire.kind l) (Wire.id_ l)

theorem kind_of (l : List UInt8) : (Wire.kind l = 1 ∨ Wire.kind l = 2) ∨ (Wire.kind l = 0 ∨ Wire.kind l = 3) ∧ Wire.id_ l = 0 := by
  by_cases h : Wire.isB l = true
  · obtain ⟨e, hr⟩ := Wire.isB_bytes h
    have h2 := Wire.right_spec.1 hr
    have h3 := Wire.kind_bytes hr
    rw [← e] at h3
    omega
  · right
    unfold Wire.kind Wire.id_
    rw [if_neg h, if_neg h]
    by_cases e : l = []
    · rw [if_pos e]; omega
    · rw [if_neg e]; omega
/-- The document's way to say it. -/
theorem ref_eq (n : Int) (l : List UInt8) : (if (Wire.kind l == 3 || decide (n ≤ Wire.id_ l)) = true then 0 else Wire.kind l) = hk n l ∧ (if (Wire.kind l == 3 || decide (n ≤ Wire.id_ l)) = true then 0 else Wire.id_ l) = hi n l := by
  have h := kind_of l
  unfold hk hi nk ni kept
  generalize Wire.kind l = k at *
  generalize Wire.id_ l = i at *
  by_cases h1 : k = 1 <;> by_cases h2 : k = 2 <;> by_cases h3 : k = 3 <;> by_cases h4 : n ≤ i <;> simp [h1, h2, h3, h4] <;> omega
/-- What is heard is nothing, or of a node that there is. -/
theorem there (n : Int) (l : List UInt8) : hk n l = 0 ∧ hi n l = 0 ∨ (hk n l = 1 ∨ hk n l = 2) ∧ 0 ≤ hi n l ∧ hi n l < n := by
  have h0 := (Wire.id_bound l).1
  unfold hk hi nk ni
  by_cases h : kept n (Wire.kind l) (Wire.id_ l) = true
  · rw [if_pos h, if_pos h]
    unfold kept at h
    simp at h
    omega
  · rw [if_neg h, if_neg h]; omega

/-- The first of two frames that is wanted. -/
def firstI (b0 b1 : Bool) (i0 i1 : Int) : Int := if b0 = true then i0 else if b1 = true then i1 else 0
def isInfo (k : Int) : Bool := k == 2
def isOther (x k i : Int) : Bool := k == 1 && i != x
def isWrong (x k i : Int) : Bool := k == 2 && i != x
def isMatch (x k i : Int) : Bool := k == 2 && i == x
end Go.Proofs.Ytjkdmnodamcjnaa.Hear
