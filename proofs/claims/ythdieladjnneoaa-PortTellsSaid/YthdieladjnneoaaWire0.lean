/-
  Plain mathematics of frames as bytes (no program in it).
-/
import Derived.Test.YthdieladjnneoaaCrc0
namespace Go.Proofs.Ythdieladjnneoaa.Wire
set_option linter.unusedVariables false
set_option linter.unusedSimpArgs false

def right (k i : Int) : Bool := (k == 1 || k == 2) && (decide (0 ≤ i) && decide (i < 8))
theorem right_spec {k i : Int} : right k i = true ↔ (k = 1 ∨ k = 2) ∧ 0 ≤ i ∧ i < 8 := by
  unfold right; simp
theorem right_no {k i : Int} (h : ¬ ((k = 1 ∨ k = 2) ∧ 0 ≤ i ∧ i < 8)) : right k i = false := by
  rw [Bool.eq_false_iff]; intro h2; exact h (right_spec.1 h2)

def head (k i : Nat) : List UInt8 := [216, UInt8.ofNat k, UInt8.ofNat i]
def bytes (k i : Nat) : List UInt8 := head k i ++ Crc.four (Crc.sum (head k i))
def put (k i : Int) : List UInt8 := if k = 3 then [0] else if right k i = true then bytes k.toNat i.toNat else []

/-- Are these the bytes of a frame that may be sent? -/
def isB : List UInt8 → Bool
  | [a, b, c, d, e, f, g] => decide (a = 216) && (decide (Crc.val d.toNat e.toNat f.toNat g.toNat = Crc.sum [a, b, c]) && right (b.toNat : Int) (c.toNat : Int))
  | _ => false
def kind (l : List UInt8) : Int := if l = [] then 0 else if isB l = true then ((l.getD 1 0).toNat : Int) else 3
def id_ (l : List UInt8) : Int := if isB l = true then ((l.getD 2 0).toNat : Int) else 0

theorem four_val (d e f g : UInt8) : Crc.four (Crc.val d.toNat e.toNat f.toNat g.toNat) = [d, e, f, g] := by
  have h1 := d.toNat_lt
  have h2 := e.toNat_lt
  have h3 := f.toNat_lt
  have h4 := g.toNat_lt
  unfold Crc.four Crc.val
  have e1 : (16777216 * d.toNat + 65536 * e.toNat + 256 * f.toNat + g.toNat) / 16777216 = d.toNat := by omega
  have e2 : (16777216 * d.toNat + 65536 * e.toNat + 256 * f.toNat + g.toNat) / 65536 % 256 = e.toNat := by omega
  have e3 : (16777216 * d.toNat + 65536 * e.toNat + 256 * f.toNat + g.toNat) / 256 % 256 = f.toNat := by omega
  have e4 : (16777216 * d.toNat + 65536 * e.toNat + 256 * f.toNat + g.toNat) % 256 = g.toNat := by omega
  rw [e1, e2, e3, e4]
  simp
theorem isB_size {l : List UInt8} (h : isB l = true) : l.length = 7 := by
  match l, h with
  | [a, b, c, d, e, f, g], _ => rfl
theorem isB_bytes {l : List UInt8} (h : isB l = true) : l = bytes (l.getD 1 0).toNat (l.getD 2 0).toNat ∧ right ((l.getD 1 0).toNat : Int) ((l.getD 2 0).toNat : Int) = true := by
  match l, h with
  | [a, b, c, d, e, f, g], h =>
    simp only [isB, Bool.and_eq_true, decide_eq_true_eq] at h
    obtain ⟨rfl, h2, h3⟩ := h
    refine ⟨?_, h3⟩
    show _ = head b.toNat c.toNat ++ Crc.four (Crc.sum (head b.toNat c.toNat))
    have e1 : head b.toNat c.toNat = [216, b, c] := by simp [head]
    rw [e1, ← h2, four_val]
    rfl
theorem bytes_size (k i : Nat) : (bytes k i).length = 7 := rfl
theorem bytes_isB {k i : Nat} (h : right k i = true) : isB (bytes k i) = true ∧ (bytes k i).getD 1 0 = UInt8.ofNat k ∧ (bytes k i).getD 2 0 = UInt8.ofNat i := by
  have h2 := right_spec.1 h
  have key : ∀ (i : Fin 8), (isB (bytes 1 i.val) = true ∧ (bytes 1 i.val).getD 1 0 = UInt8.ofNat 1 ∧ (bytes 1 i.val).getD 2 0 = UInt8.ofNat i.val) ∧ (isB (bytes 2 i.val) = true ∧ (bytes 2 i.val).getD 1 0 = UInt8.ofNat 2 ∧ (bytes 2 i.val).getD 2 0 = UInt8.ofNat i.val) := by decide +kernel
  have h3 : k = 1 ∨ k = 2 := by omega
  rcases h3 with rfl | rfl
  · exact (key ⟨i, by omega⟩).1
  · exact (key ⟨i, by omega⟩).2
theorem kind_bytes {k i : Nat} (h : right k i = true) : kind (bytes k i) = k ∧ id_ (bytes k i) = i := by
  obtain ⟨h1, h2, h3⟩ := bytes_isB h
  have h4 := right_spec.1 h
  have hne : bytes k i ≠ [] := by intro e; have := bytes_size k i; rw [e] at this; cases this
  have hk : (UInt8.ofNat k).toNat = k := by simp; omega
  have hi : (UInt8.ofNat i).toNat = i := by simp; omega
  unfold kind id_
  rw [if_neg hne, if_pos h1, if_pos h1, h2, h3, hk, hi]
  exact ⟨rfl, rfl⟩
theorem kind_no {l : List UInt8} (hne : l ≠ []) (h : ∀ k i : Nat, right k i = true → bytes k i ≠ l) : kind l = 3 ∧ id_ l = 0 := by
  have h2 : isB l ≠ true := fun hb => by
    obtain ⟨e, hr⟩ := isB_bytes hb
    exact h _ _ hr e.symm
  unfold kind id_
  rw [if_neg hne, if_neg h2, if_neg h2]
  exact ⟨rfl, rfl⟩
theorem kind_nil : kind [] = 0 ∧ id_ [] = 0 := by decide +kernel
theorem id_bound (l : List UInt8) : 0 ≤ id_ l ∧ id_ l < 256 ∧ 0 ≤ kind l ∧ kind l < 256 := by
  have h1 := (l.getD 1 0).toNat_lt
  have h2 := (l.getD 2 0).toNat_lt
  unfold kind id_
  refine ⟨?_, ?_, ?_, ?_⟩ <;> (repeat split) <;> omega

/-- One bit turned. -/
def flip (l : List UInt8) (k : Nat) : List UInt8 := l.set (k / 8) (l.getD (k / 8) 0 ^^^ UInt8.ofNat (2 ^ (k % 8)))
theorem flip_noise {k i : Nat} (h : right k i = true) (b : Nat) (hb : b < 56) : kind (flip (bytes k i) b) = 3 ∧ id_ (flip (bytes k i) b) = 0 := by
  have h2 := right_spec.1 h
  have key : ∀ (b : Fin 56) (i : Fin 8), (kind (flip (bytes 1 i.val) b.val) = 3 ∧ id_ (flip (bytes 1 i.val) b.val) = 0) ∧ (kind (flip (bytes 2 i.val) b.val) = 3 ∧ id_ (flip (bytes 2 i.val) b.val) = 0) := by decide +kernel
  have h3 : k = 1 ∨ k = 2 := by omega
  rcases h3 with rfl | rfl
  · exact (key ⟨b, hb⟩ ⟨i, by omega⟩).1
  · exact (key ⟨b, hb⟩ ⟨i, by omega⟩).2
theorem kind_long {l : List UInt8} (h : 7 < l.length) : kind l = 3 ∧ id_ l = 0 := by
  refine kind_no (fun e => by rw [e] at h; simp at h) (fun k i hr e => ?_)
  have := bytes_size k i
  rw [e] at this
  omega
theorem bytes_inj {k i k' i' : Nat} (h : right k i = true) (h' : right k' i' = true) (e : bytes k i = bytes k' i') : k = k' ∧ i = i' := by
  have a := kind_bytes h
  have b := kind_bytes h'
  rw [e] at a
  omega
theorem put_yes {k i : Int} (h : right k i = true) : put k i = bytes k.toNat i.toNat := by
  have h2 := right_spec.1 h
  unfold put
  rw [if_neg (by omega), if_pos h]
theorem put_noise {k i : Int} (h : k = 3) : put k i = [0] := by unfold put; rw [if_pos h]
theorem put_no {k i : Int} (h : right k i = false) (h3 : k ≠ 3) : put k i = [] := by
  unfold put; rw [if_neg h3, h]; rfl

def get8 (l : List UInt8) (j : Nat) : Nat := (l.getD j 0).toNat
theorem flip_get (l : List UInt8) (hl : l.length = 7) (k : Nat) (hk : k < 56) (j : Nat) : get8 (flip l k) j = if j = k / 8 then get8 l (k / 8) ^^^ 2 ^ (k % 8) else get8 l j := by
  unfold flip get8
  have hp : 2 ^ (k % 8) < 256 := Nat.pow_lt_pow_right (a := 2) (by omega) (show k % 8 < 8 by omega)
  by_cases h : j = k / 8
  · subst h
    rw [if_pos rfl, List.getD_eq_getElem?_getD, List.getElem?_set_self (by omega)]
    generalize 2 ^ (k % 8) = y at *
    rw [Option.getD_some, UInt8.toNat_xor]
    have e : (UInt8.ofNat y).toNat = y := by simp; omega
    rw [e]
  · rw [if_neg h, List.getD_eq_getElem?_getD, List.getElem?_set_ne (Ne.symm h), ← List.getD_eq_getElem?_getD]
theorem get8_lt (l : List UInt8) (j : Nat) : get8 l j < 256 := UInt8.toNat_lt _
theorem pow_small {q : Nat} (h : q < 7) : 2 ^ q ≤ 64 := by
  have := Nat.pow_le_pow_right (n := 2) (by omega) (show q ≤ 6 by omega)
  omega
theorem pow_byte {q : Nat} (h : q < 8) : 2 ^ q < 256 := by
  have := Nat.pow_lt_pow_right (a := 2) (by omega) h
  omega
theorem flip_length (l : List UInt8) (k : Nat) : (flip l k).length = l.length := by unfold flip; simp
end Go.Proofs.Ythdieladjnneoaa.Wire
