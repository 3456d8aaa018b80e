/-
  Plain mathematics of bursts (no program in it): the register bit by bit; a row of at most 32 changed bits gives another sum.
-/
import Derived.Test.YtamgpfhljbaaiaaCrc0
namespace Go.Proofs.Ytamgpfhljbaaiaa.Crc

theorem step_xor (a b : Nat) : step (a ^^^ b) = step a ^^^ step b := by
  unfold step
  have h1 : (a ^^^ b) / 2 = a / 2 ^^^ b / 2 := Nat.xor_div_two
  have h2 := @Nat.xor_mod_two_eq_one a b
  by_cases ha : a % 2 = 1 <;> by_cases hb : b % 2 = 1
  · rw [if_neg (by rw [h2]; simp [ha, hb]), if_pos ha, if_pos hb, h1]
    rw [Nat.xor_assoc, Nat.xor_comm 3988292384, Nat.xor_assoc (b / 2), Nat.xor_self, Nat.xor_zero]
  · rw [if_pos (by rw [h2]; simp [ha, hb]), if_pos ha, if_neg hb, h1]
    rw [Nat.xor_assoc, Nat.xor_comm (b / 2), ← Nat.xor_assoc]
  · rw [if_pos (by rw [h2]; simp [ha, hb]), if_neg ha, if_pos hb, h1, Nat.xor_assoc]
  · rw [if_neg (by rw [h2]; simp [ha, hb]), if_neg ha, if_neg hb, h1]
theorem steps_xor (k a b : Nat) : steps k (a ^^^ b) = steps k a ^^^ steps k b := by
  induction k with
  | zero => rfl
  | succ k ih => show step _ = step _ ^^^ step _; rw [ih, step_xor]
theorem step_two (y : Nat) : step (2 * y) = y := by unfold step; rw [if_neg (by omega)]; omega
theorem steps_succ (k x : Nat) : steps (k + 1) x = steps k (step x) := by
  induction k with
  | zero => rfl
  | succ k ih => show step (steps (k + 1) x) = step (steps k (step x)); rw [ih]
theorem steps_pow (k y : Nat) : steps k (2 ^ k * y) = y := by
  induction k generalizing y with
  | zero => simp [steps]
  | succ k ih =>
    rw [steps_succ]
    have e : 2 ^ (k + 1) * y = 2 * (2 ^ k * y) := by rw [Nat.pow_succ]; rw [Nat.mul_comm (2 ^ k) 2, Nat.mul_assoc]
    rw [e, step_two, ih]
theorem step_nil {x : Nat} (hx : x < 4294967296) (h : step x = 0) : x = 0 := by
  unfold step at h
  split at h
  · have h2 : x / 2 = 3988292384 := by
      have h3 : (x / 2 ^^^ 3988292384) ^^^ 3988292384 = 3988292384 := by rw [h]; simp
      rw [Nat.xor_assoc, Nat.xor_self, Nat.xor_zero] at h3
      exact h3
    omega
  · omega
theorem step_zero : step 0 = 0 := rfl
theorem steps_nil {x : Nat} (k : Nat) (hx : x < 4294967296) : steps k x = 0 ↔ x = 0 := by
  induction k with
  | zero => exact Iff.rfl
  | succ k ih =>
    constructor
    · intro h; exact ih.1 (step_nil (steps_lt k hx) h)
    · intro h; show step (steps k x) = 0; rw [ih.2 h]; rfl

theorem mod_succ (b i : Nat) : b % 2 ^ (i + 1) = b % 2 ^ i ^^^ 2 ^ i * (b.testBit i).toNat := by
  apply Nat.eq_of_testBit_eq
  intro j
  rw [Nat.testBit_xor, Nat.testBit_mod_two_pow, Nat.testBit_mod_two_pow]
  have h : (2 ^ i * (b.testBit i).toNat).testBit j = (decide (i = j) && b.testBit j) := by
    cases hb : b.testBit i
    · by_cases e : i = j
      · subst e; simp [hb]
      · simp [e]
    · by_cases e : i = j
      · subst e; simp [hb]
      · simp [e]
  rw [h]
  by_cases h1 : j < i
  · have h2 : j < i + 1 := by omega
    have h3 : ¬ i = j := by omega
    simp [h1, h2, h3]
  · by_cases h4 : i = j
    · subst h4; simp
    · have h2 : ¬ j < i + 1 := by omega
      simp [h1, h2, h4]

/-- The register bit by bit. -/
def rb (f : Nat → Bool) : Nat → Nat
  | 0 => 4294967295
  | m + 1 => step (rb f m ^^^ (f m).toNat)

theorem rb_eight (f : Nat → Bool) (m b : Nat) (i : Nat) (hf : ∀ j, j < i → f (m + j) = b.testBit j) : rb f (m + i) = steps i (rb f m ^^^ b % 2 ^ i) := by
  induction i with
  | zero => simp [steps, Nat.mod_one]
  | succ i ih =>
    rw [mod_succ, ← Nat.xor_assoc]
    show step (rb f (m + i) ^^^ (f (m + i)).toNat) = step (steps i _)
    rw [ih (fun j hj => hf j (by omega)), hf i (by omega), steps_xor i _ (2 ^ i * _), steps_pow]

def bitAt (l : List UInt8) (m : Nat) : Bool := (l.getD (m / 8) 0).toNat.testBit (m % 8)

theorem reg_rb (l : List UInt8) (k : Nat) (hk : k ≤ l.length) : reg 4294967295 (l.take k) = rb (bitAt l) (8 * k) := by
  induction k with
  | zero => rfl
  | succ k ih =>
    have hlt : k < l.length := by omega
    rw [List.take_succ_eq_append_getElem hlt, reg_snoc, ih (by omega)]
    have h := rb_eight (bitAt l) (8 * k) (l[k]).toNat 8 (fun j hj => by
      unfold bitAt
      have e1 : (8 * k + j) / 8 = k := by omega
      have e2 : (8 * k + j) % 8 = j := by omega
      rw [e1, e2, List.getD_eq_getElem?_getD, List.getElem?_eq_getElem hlt]
      rfl)
    have hb : (l[k]).toNat % 2 ^ 8 = (l[k]).toNat := Nat.mod_eq_of_lt (l[k]).toNat_lt
    rw [hb] at h
    show steps 8 _ = rb (bitAt l) (8 * (k + 1))
    rw [← h]
    rfl

/-- Two registers part as the changed bits say. -/
theorem part_before (f g : Nat → Bool) (fr : Nat) (h : ∀ m, m < fr → g m = f m) : rb g fr ^^^ rb f fr = 0 := by
  induction fr with
  | zero => simp [rb]
  | succ k ih =>
    show step _ ^^^ step _ = 0
    rw [← step_xor, h k (by omega)]
    have e : (rb g k ^^^ (f k).toNat) ^^^ (rb f k ^^^ (f k).toNat) = rb g k ^^^ rb f k := by
      rw [Nat.xor_comm (rb f k), Nat.xor_assoc, ← Nat.xor_assoc (f k).toNat (f k).toNat, Nat.xor_self, Nat.zero_xor]
    rw [e, ih (fun m hm => h m (by omega))]
    rfl
theorem xor_bool (x y : Nat) (a b : Bool) : (x ^^^ (a ^^ b).toNat) ^^^ (y ^^^ a.toNat) = (x ^^^ y) ^^^ b.toNat := by
  have e : (a ^^ b).toNat = a.toNat ^^^ b.toNat := by cases a <;> cases b <;> rfl
  rw [e, Nat.xor_comm y, ← Nat.xor_assoc, ← Nat.xor_assoc]
  have e2 : x ^^^ a.toNat ^^^ b.toNat ^^^ a.toNat = x ^^^ b.toNat := by
    rw [Nat.xor_assoc (x ^^^ a.toNat), Nat.xor_comm b.toNat, ← Nat.xor_assoc, Nat.xor_assoc x, Nat.xor_self, Nat.xor_zero]
  rw [e2, Nat.xor_assoc, Nat.xor_comm b.toNat, ← Nat.xor_assoc]
theorem part_in (f g : Nat → Bool) (fr bits : Nat) (h0 : rb g fr ^^^ rb f fr = 0) (i : Nat) (h : ∀ j, j < i → g (fr + j) = (f (fr + j) ^^ bits.testBit j)) :
    rb g (fr + i) ^^^ rb f (fr + i) = steps i (bits % 2 ^ i) := by
  induction i with
  | zero => simpa [steps, Nat.mod_one] using h0
  | succ i ih =>
    show step (rb g (fr + i) ^^^ (g (fr + i)).toNat) ^^^ step (rb f (fr + i) ^^^ (f (fr + i)).toNat) = step (steps i _)
    rw [← step_xor, h i (by omega), xor_bool, ih (fun j hj => h j (by omega)), mod_succ, steps_xor, steps_pow]
theorem part_after (f g : Nat → Bool) (m j : Nat) (h : ∀ i, i < j → g (m + i) = f (m + i)) : rb g (m + j) ^^^ rb f (m + j) = steps j (rb g m ^^^ rb f m) := by
  induction j with
  | zero => rfl
  | succ j ih =>
    show step (rb g (m + j) ^^^ (g (m + j)).toNat) ^^^ step (rb f (m + j) ^^^ (f (m + j)).toNat) = step (steps j _)
    rw [← step_xor, h j (by omega), ← ih (fun i hi => h i (by omega))]
    have e := xor_bool (rb g (m + j)) (rb f (m + j)) (f (m + j)) false
    rw [Bool.xor_false] at e
    rw [e]
    simp

theorem xor_zero_iff (a b : Nat) : a ^^^ b = 0 ↔ a = b := by
  constructor
  · intro h
    have h2 : (a ^^^ b) ^^^ b = b := by rw [h]; simp
    rw [Nat.xor_assoc, Nat.xor_self, Nat.xor_zero] at h2
    exact h2
  · rintro rfl; simp
theorem burst (l t : List UInt8) (fr bits i : Nat) (hlen : t.length = l.length) (hi : i ≤ 32) (hfr : fr + i ≤ 8 * l.length)
    (h : ∀ m, m < 8 * l.length → bitAt t m = (bitAt l m ^^ (decide (fr ≤ m) && decide (m < fr + i) && bits.testBit (m - fr)))) :
    sum t = sum l ↔ bits % 2 ^ i = 0 := by
  have h1 := part_before (bitAt l) (bitAt t) fr (fun m hm => by rw [h m (by omega)]; simp [show ¬ fr ≤ m by omega])
  have h2 := part_in (bitAt l) (bitAt t) fr bits h1 i (fun j hj => by
    rw [h (fr + j) (by omega)]
    have e : fr + j - fr = j := by omega
    simp [e, show fr ≤ fr + j by omega, show fr + j < fr + i by omega])
  have h3 := part_after (bitAt l) (bitAt t) (fr + i) (8 * l.length - (fr + i)) (fun j hj => by
    rw [h (fr + i + j) (by omega)]
    simp [show ¬ fr + i + j < fr + i by omega])
  have e : fr + i + (8 * l.length - (fr + i)) = 8 * l.length := by omega
  rw [e, h2] at h3
  have hl := reg_rb l l.length (Nat.le_refl _)
  have ht := reg_rb t t.length (Nat.le_refl _)
  rw [List.take_length] at hl ht
  rw [hlen] at ht
  rw [← hl, ← ht] at h3
  have b0 : bits % 2 ^ i < 4294967296 := by
    have p1 : bits % 2 ^ i < 2 ^ i := Nat.mod_lt _ (Nat.two_pow_pos i)
    have p2 : 2 ^ i ≤ 2 ^ 32 := Nat.pow_le_pow_right (by omega) hi
    omega
  have b1 := reg_lt l (r := 4294967295) (by omega)
  have b2 := reg_lt t (r := 4294967295) (by omega)
  have h4 : reg 4294967295 t = reg 4294967295 l ↔ bits % 2 ^ i = 0 := by
    rw [← xor_zero_iff, h3, steps_nil _ (steps_lt _ b0), steps_nil _ b0]
  rw [← h4]
  unfold sum
  omega

/-! ### The bytes as rounds of the loop leave them -/
def cur (S : Nat → Nat) (fr bits : Nat) : Nat → Nat → Nat
  | 0, j => S j
  | i + 1, j => if bits.testBit i = true ∧ j = (fr + i) / 8 then cur S fr bits i j ^^^ 2 ^ ((fr + i) % 8) else cur S fr bits i j
theorem cur_succ (S : Nat → Nat) (fr bits i j : Nat) : cur S fr bits (i + 1) j = if bits.testBit i = true ∧ j = (fr + i) / 8 then cur S fr bits i j ^^^ 2 ^ ((fr + i) % 8) else cur S fr bits i j := rfl
theorem cur_lt (S : Nat → Nat) (hS : ∀ j, S j < 256) (fr bits i j : Nat) : cur S fr bits i j < 256 := by
  induction i with
  | zero => exact hS j
  | succ i ih =>
    rw [cur_succ]
    split
    · have hp : 2 ^ ((fr + i) % 8) < 2 ^ 8 := Nat.pow_lt_pow_right (by omega) (by omega)
      exact Nat.xor_lt_two_pow (n := 8) ih hp
    · exact ih
theorem cur_bit (S : Nat → Nat) (fr bits i m : Nat) : (cur S fr bits i (m / 8)).testBit (m % 8) = ((S (m / 8)).testBit (m % 8) ^^ (decide (fr ≤ m) && decide (m < fr + i) && bits.testBit (m - fr))) := by
  induction i with
  | zero =>
    have e : (decide (fr ≤ m) && decide (m < fr + 0)) = false := by
      by_cases h : fr ≤ m
      · simp [show ¬ m < fr by omega]
      · simp [h]
    rw [e]
    simp [cur]
  | succ i ih =>
    by_cases hm : m = fr + i
    · subst hm
      have e1 : fr + i - fr = i := by omega
      have e2 : decide (fr + i < fr + i) = false := by simp
      rw [e1, e2, Bool.and_false, Bool.false_and, Bool.xor_false] at ih
      have e3 : (decide (fr ≤ fr + i) && decide (fr + i < fr + (i + 1))) = true := by simp
      rw [e1, e3, Bool.true_and, ← ih]
      rw [cur_succ]
      by_cases hb : bits.testBit i = true
      · rw [if_pos ⟨hb, rfl⟩, Nat.testBit_xor, Nat.testBit_two_pow_self, hb]
      · rw [if_neg (fun h => hb h.1)]
        simp [hb]
    · have e3 : decide (m < fr + (i + 1)) = decide (m < fr + i) := by
        by_cases h : m < fr + i
        · simp [h, show m < fr + (i + 1) by omega]
        · simp [h, show ¬ m < fr + (i + 1) by omega]
      rw [e3, ← ih]
      rw [cur_succ]
      split
      · rename_i hc
        rw [Nat.testBit_xor, hc.2, Nat.testBit_two_pow]
        have hne : ¬ (fr + i) % 8 = m % 8 := by omega
        simp [hne]
      · rfl
theorem cur_no (S : Nat → Nat) (fr bits i : Nat) (h : bits / 2 ^ i % 2 ≠ 1) : cur S fr bits (i + 1) = cur S fr bits i := by
  funext j
  rw [cur_succ, Nat.testBit_eq_decide_div_mod_eq]
  simp [h]

/-- Was anything changed in the first i rounds? -/
def some_ (bits i : Nat) : Bool := !decide (bits % 2 ^ i = 0)
theorem some_no {bits i : Nat} (h : bits / 2 ^ i % 2 ≠ 1) : some_ bits (i + 1) = some_ bits i := by
  unfold some_
  have e := Nat.mod_pow_succ (x := bits) (b := 2) (k := i)
  have e0 : bits / 2 ^ i % 2 = 0 := by omega
  rw [e, e0]
  simp
theorem some_yes {bits i : Nat} (h : bits / 2 ^ i % 2 = 1) : some_ bits (i + 1) = true := by
  unfold some_
  have e := Nat.mod_pow_succ (x := bits) (b := 2) (k := i)
  rw [e, h]
  have := Nat.two_pow_pos i
  simp
def curs (l : List UInt8) (fr bits i : Nat) : List UInt8 := (List.range l.length).map fun j => UInt8.ofNat (cur (fun j => (l.getD j 0).toNat) fr bits i j)
theorem curs_length (l : List UInt8) (fr bits i : Nat) : (curs l fr bits i).length = l.length := by simp [curs]
theorem curs_get (l : List UInt8) (fr bits i j : Nat) (hj : j < (curs l fr bits i).length) : ((curs l fr bits i)[j].toNat : Int) = (cur (fun j => (l.getD j 0).toNat) fr bits i j : Nat) := by
  have h := cur_lt (fun j => (l.getD j 0).toNat) (fun j => UInt8.toNat_lt _) fr bits i j
  simp only [curs, List.getElem_map, List.getElem_range, UInt8.toNat_ofNat']
  omega
theorem curs_bit (l : List UInt8) (fr bits i m : Nat) (hm : m < 8 * l.length) :
    bitAt (curs l fr bits i) m = (bitAt l m ^^ (decide (fr ≤ m) && decide (m < fr + i) && bits.testBit (m - fr))) := by
  have hj : m / 8 < (curs l fr bits i).length := by rw [curs_length]; omega
  have h := curs_get l fr bits i (m / 8) hj
  unfold bitAt
  rw [← cur_bit (fun j => (l.getD j 0).toNat), List.getD_eq_getElem?_getD, List.getElem?_eq_getElem hj]
  show (curs l fr bits i)[m / 8].toNat.testBit _ = _
  rw [Int.ofNat_inj.1 h]
theorem burst_curs (l : List UInt8) (fr bits i : Nat) (hi : i ≤ 32) (hfr : fr + i ≤ 8 * l.length) : (((sum (curs l fr bits i) : Nat) : Int) != ((sum l : Nat) : Int)) = some_ bits i := by
  have h := burst l (curs l fr bits i) fr bits i (curs_length _ _ _ _) hi hfr (fun m hm => curs_bit l fr bits i m hm)
  unfold some_
  by_cases e : bits % 2 ^ i = 0
  · rw [h.2 e]; simp [e]
  · have hne : ¬ sum (curs l fr bits i) = sum l := fun hh => e (h.1 hh)
    have h2 : ((sum (curs l fr bits i) : Nat) : Int) ≠ ((sum l : Nat) : Int) := fun hh => hne (Int.ofNat_inj.1 hh)
    simp [e, h2]
theorem pow_small {q : Nat} (h : q < 7) : 2 ^ q ≤ 64 := by
  have := Nat.pow_le_pow_right (n := 2) (by omega) (show q ≤ 6 by omega)
  omega
theorem pow_byte {q : Nat} (h : q < 8) : 2 ^ q < 256 := by
  have := Nat.pow_lt_pow_right (a := 2) (by omega) h
  omega
end Go.Proofs.Ytamgpfhljbaaiaa.Crc
