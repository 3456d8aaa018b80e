
import Derived.Test.YtjkdmnodamcjnaaSay0
import Derived.Test.YtjkdmnodamcjnaaHear0
/-
  Plain mathematics of what becomes of a node (no program in it).
-/
namespace Go.Proofs.Ytjkdmnodamcjnaa.Act
set_option linter.unusedVariables false
set_option linter.unusedSimpArgs false
open Go.Proofs.Ytjkdmnodamcjnaa

structure Nd where
  i : Int
  m : Int
  c : Int
  p : Int
def up (c : Int) : Int := Tally.up c 1073741824
def listen (n i c p : Int) (b1 : Bool) (id1 : Int) (b2 s : Bool) : Nd :=
  if b1 = true then ⟨i, 3, 0, (id1 + 1) % n⟩ else if b2 = true ∨ s = true then ⟨i, 2, 0, 0⟩ else ⟨i, 1, up c, p⟩
def cold (n i c p : Int) (b1 : Bool) (id1 : Int) (b2 : Bool) (id2 : Int) (s : Bool) : Nd :=
  if b1 = true then ⟨i, 3, 0, (id1 + 1) % n⟩ else if b2 = true then ⟨i, 3, 0, (id2 + 1) % n⟩ else if s = true then ⟨i, 2, 0, 0⟩ else ⟨i, 2, up c, p⟩
def active (n i c p : Int) (wr ot ma : Bool) : Nd :=
  if wr = true then ⟨i, 1, 0, 0⟩ else if ot = true then ⟨i, 2, 0, 0⟩ else if ma = true then ⟨i, 3, 0, (p + 1) % n⟩ else if 8 * n ≤ up c then ⟨i, 1, 0, 0⟩ else ⟨i, 3, up c, (p + 1) % n⟩
def step (n i m c p k0 i0 k1 i1 : Int) : Nd :=
  if m = 3 then active n i c p (Hear.isWrong p k0 i0 || Hear.isWrong p k1 i1) (Hear.isOther i k0 i0 || Hear.isOther i k1 i1) (Hear.isMatch p k0 i0 || Hear.isMatch p k1 i1)
  else if m = 2 then cold n i c p (Hear.isInfo k0 || Hear.isInfo k1) (Hear.firstI (Hear.isInfo k0) (Hear.isInfo k1) i0 i1) (Hear.isOther i k0 i0 || Hear.isOther i k1 i1) (Hear.firstI (Hear.isOther i k0 i0) (Hear.isOther i k1 i1) i0 i1) (Say.kind n i m c p == 1)
  else listen n i c p (Hear.isInfo k0 || Hear.isInfo k1) (Hear.firstI (Hear.isInfo k0) (Hear.isInfo k1) i0 i1) (Hear.isOther i k0 i0 || Hear.isOther i k1 i1) (Say.kind n i m c p == 1)
/-- May a node go on? -/
def good (n i m c p : Int) : Bool := Node.right n i m c p && m != 0
def none : Nd := ⟨0, 0, 0, 0⟩
def next (n i m c p k0 i0 k1 i1 : Int) : Nd := if good n i m c p = true then step n i m c p k0 i0 k1 i1 else none
def err (n i m c p : Int) : Int := if good n i m c p = true then 0 else 1
/-- A frame that may be heard. -/
def heard1 (n k i : Int) : Bool := decide (k = 0 ∧ i = 0 ∨ (k = 1 ∨ k = 2) ∧ 0 ≤ i ∧ i < n)
def heard (n k0 i0 k1 i1 : Int) : Bool := heard1 n k0 i0 && heard1 n k1 i1
theorem good_right {n i m c p : Int} (h : good n i m c p = true) : Node.right n i m c p = true ∧ m ≠ 0 := by
  unfold good at h; simpa using h
theorem heard_of {n k0 i0 k1 i1 : Int} (h : heard n k0 i0 k1 i1 = true) : (k0 = 0 ∧ i0 = 0 ∨ (k0 = 1 ∨ k0 = 2) ∧ 0 ≤ i0 ∧ i0 < n) ∧ (k1 = 0 ∧ i1 = 0 ∨ (k1 = 1 ∨ k1 = 2) ∧ 0 ≤ i1 ∧ i1 < n) := by
  unfold heard heard1 at h
  simpa using h
theorem heard_none (n : Int) : heard n 0 0 0 0 = true := by unfold heard heard1; simp
theorem first_there {n k0 i0 k1 i1 : Int} (b0 b1 : Bool) (h0 : b0 = true → 0 ≤ i0 ∧ i0 < n) (h1 : b1 = true → 0 ≤ i1 ∧ i1 < n) (h : (b0 || b1) = true) : 0 ≤ Hear.firstI b0 b1 i0 i1 ∧ Hear.firstI b0 b1 i0 i1 < n := by
  unfold Hear.firstI
  cases b0 <;> cases b1 <;> simp_all
theorem info_there {n k0 i0 k1 i1 : Int} (h : heard n k0 i0 k1 i1 = true) : (Hear.isInfo k0 || Hear.isInfo k1) = true → 0 ≤ Hear.firstI (Hear.isInfo k0) (Hear.isInfo k1) i0 i1 ∧ Hear.firstI (Hear.isInfo k0) (Hear.isInfo k1) i0 i1 < n := by
  have h2 := heard_of h
  refine first_there (k0 := k0) (k1 := k1) _ _ ?_ ?_
  all_goals
    unfold Hear.isInfo
    simp only [beq_iff_eq]
    omega
theorem other_there {n k0 i0 k1 i1 : Int} (x : Int) (h : heard n k0 i0 k1 i1 = true) : (Hear.isOther x k0 i0 || Hear.isOther x k1 i1) = true → 0 ≤ Hear.firstI (Hear.isOther x k0 i0) (Hear.isOther x k1 i1) i0 i1 ∧ Hear.firstI (Hear.isOther x k0 i0) (Hear.isOther x k1 i1) i0 i1 < n := by
  have h2 := heard_of h
  refine first_there (k0 := k0) (k1 := k1) _ _ ?_ ?_
  all_goals
    unfold Hear.isOther
    simp only [Bool.and_eq_true, beq_iff_eq]
    omega
theorem up_bounds (c : Int) : 0 < up c ∧ up c ≤ 1073741824 := by
  unfold up Tally.up
  split <;> omega
theorem up_small {c : Int} (h : 0 ≤ c) (h2 : c < 1073741824) : up c = c + 1 := by
  unfold up Tally.up
  split <;> omega
/-- What becomes of a node may be, has its Id, and is powered. -/
theorem step_good {n i m c p k0 i0 k1 i1 : Int} (h : good n i m c p = true) (hh : heard n k0 i0 k1 i1 = true) :
    let y := step n i m c p k0 i0 k1 i1
    y.i = i ∧ good n y.i y.m y.c y.p = true := by
  have hr := Say.right_of (good_right h).1
  have hm := (good_right h).2
  have hu := up_bounds c
  have p0 : ∀ x : Int, 0 ≤ (x + 1) % n := fun x => Int.emod_nonneg _ (by omega)
  have p1 : ∀ x : Int, (x + 1) % n < n := fun x => Int.emod_lt_of_pos _ (by omega)
  have key : ∀ y : Nd, y.i = i ∧ (y.m = 1 ∧ 0 ≤ y.c ∧ y.c ≤ 1073741824 ∧ y.p = 0 ∨ y.m = 2 ∧ 0 ≤ y.c ∧ y.c ≤ 1073741824 ∧ y.p = 0 ∨ y.m = 3 ∧ 0 ≤ y.c ∧ y.c ≤ 1073741824 ∧ 0 ≤ y.p ∧ y.p < n) → y.i = i ∧ good n y.i y.m y.c y.p = true := by
    rintro ⟨a, b, c, d⟩ ⟨e, h⟩
    dsimp only at e h ⊢
    subst e
    refine ⟨rfl, ?_⟩
    unfold good Node.right
    simp only [Bool.and_eq_true, decide_eq_true_eq, bne_iff_ne, ne_eq]
    omega
  intro y
  refine key y ?_
  have e : y = step n i m c p k0 i0 k1 i1 := rfl
  clear_value y
  unfold step at e
  by_cases h3 : m = 3
  · rw [if_pos h3] at e
    unfold active at e
    have a0 := p0 p
    have a1 := p1 p
    repeat' split at e
    all_goals
      subst e
      dsimp only
      refine ⟨rfl, ?_⟩
      first
        | exact Or.inl ⟨rfl, by omega, by omega, by omega⟩
        | exact Or.inr (Or.inl ⟨rfl, by omega, by omega, by omega⟩)
        | exact Or.inr (Or.inr ⟨rfl, by omega, by omega, by omega, by omega⟩)
  · rw [if_neg h3] at e
    have a0 := p0 (Hear.firstI (Hear.isInfo k0) (Hear.isInfo k1) i0 i1)
    have a1 := p1 (Hear.firstI (Hear.isInfo k0) (Hear.isInfo k1) i0 i1)
    have b0 := p0 (Hear.firstI (Hear.isOther i k0 i0) (Hear.isOther i k1 i1) i0 i1)
    have b1 := p1 (Hear.firstI (Hear.isOther i k0 i0) (Hear.isOther i k1 i1) i0 i1)
    unfold cold listen at e
    repeat' split at e
    all_goals
      subst e
      dsimp only
      refine ⟨rfl, ?_⟩
      first
        | exact Or.inl ⟨rfl, by omega, by omega, by omega⟩
        | exact Or.inr (Or.inl ⟨rfl, by omega, by omega, by omega⟩)
        | exact Or.inr (Or.inr ⟨rfl, by omega, by omega, by omega, by omega⟩)
/-- What becomes of it in a tick in which nothing is heard. -/
def tick (n : Int) (x : Nd) : Nd := step n x.i x.m x.c x.p 0 0 0 0
def ticks (n : Int) (x : Nd) : Nat → Nd
  | 0 => x
  | t + 1 => tick n (ticks n x t)
theorem ticks_good {n : Int} {x : Nd} (h : good n x.i x.m x.c x.p = true) (t : Nat) : (ticks n x t).i = x.i ∧ good n (ticks n x t).i (ticks n x t).m (ticks n x t).c (ticks n x t).p = true := by
  induction t with
  | zero => exact ⟨rfl, h⟩
  | succ t ih =>
    have h2 := step_good ih.2 (heard_none n)
    exact ⟨h2.1.trans ih.1, h2.2⟩
def quiet (n i m c p t : Int) : Nd := if good n i m c p = true ∧ 0 ≤ t ∧ t ≤ 1000 then ticks n ⟨i, m, c, p⟩ t.toNat else none
def quietErr (n i m c p t : Int) : Int := if good n i m c p = true then (if 0 ≤ t ∧ t ≤ 1000 then 0 else 2) else 1
/-! Nothing is heard. -/
theorem tick_active {n i c p : Int} (h : up c < 8 * n) : tick n ⟨i, 3, c, p⟩ = ⟨i, 3, up c, (p + 1) % n⟩ := by
  unfold tick step active
  simp [Hear.isWrong, Hear.isOther, Hear.isMatch, show ¬ (8 * n ≤ up c) by omega]
theorem tick_ends {n i c p : Int} (h : 8 * n ≤ up c) : tick n ⟨i, 3, c, p⟩ = ⟨i, 1, 0, 0⟩ := by
  unfold tick step active
  simp [Hear.isWrong, Hear.isOther, Hear.isMatch, h]
theorem ticks_active {n i c p : Int} (hn : 3 ≤ n ∧ n ≤ 8) (hc : 0 ≤ c) (hp : 0 ≤ p ∧ p < n) (t : Nat) (h : c + t < 8 * n) : ticks n ⟨i, 3, c, p⟩ t = ⟨i, 3, c + t, (p + t) % n⟩ := by
  induction t with
  | zero => simp [ticks, Int.emod_eq_of_lt hp.1 hp.2]
  | succ t ih =>
    have hu := up_small (c := c + t) (by omega) (by omega)
    rw [ticks, ih (by omega), tick_active (by omega), hu]
    congr 1
    · push_cast; omega
    · rw [Int.emod_add_emod]; congr 1; push_cast; omega
theorem ticks_ends {n i c p : Int} (hn : 3 ≤ n ∧ n ≤ 8) (hc : 0 ≤ c) (hp : 0 ≤ p ∧ p < n) (t : Nat) (h0 : 0 < t) (h : c + t = 8 * n) : ticks n ⟨i, 3, c, p⟩ t = ⟨i, 1, 0, 0⟩ := by
  obtain ⟨t, rfl⟩ : ∃ s, t = s + 1 := ⟨t - 1, by omega⟩
  have hu := up_small (c := c + t) (by omega) (by omega)
  rw [ticks, ticks_active hn hc hp t (by omega), tick_ends (by omega)]
theorem ticks_add (n : Int) (x : Nd) (s t : Nat) : ticks n x (s + t) = ticks n (ticks n x s) t := by
  induction t with
  | zero => rfl
  | succ t ih => rw [Nat.add_succ, ticks, ih, ticks]
theorem tick_listens {n i c : Int} (hn : 3 ≤ n ∧ n ≤ 8) (hi : 0 ≤ i ∧ i < n) (hc : 0 ≤ c ∧ c ≤ n) : tick n ⟨i, 1, c, 0⟩ = ⟨i, 1, c + 1, 0⟩ := by
  have hr : Node.right n i 1 c 0 = true := by
    exact decide_eq_true ⟨by omega, by omega, by omega, by omega, Or.inr (Or.inl ⟨Or.inl rfl, by omega, by omega, rfl⟩)⟩
  have hd : Say.due n i 1 c 0 ≠ 0 := by
    rw [Say.due_yes hr]
    unfold Say.wait
    rw [if_pos rfl]
    omega
  have hk := (Say.later hr hd).1
  unfold tick step listen
  simp [Hear.isInfo, Hear.isOther, hk, up_small hc.1 (by omega)]
theorem ticks_listens {n i : Int} (hn : 3 ≤ n ∧ n ≤ 8) (hi : 0 ≤ i ∧ i < n) (t : Nat) (h : (t : Int) ≤ n) : ticks n ⟨i, 1, 0, 0⟩ t = ⟨i, 1, t, 0⟩ := by
  induction t with
  | zero => rfl
  | succ t ih =>
    rw [ticks, ih (by omega), tick_listens hn hi (by omega)]
    congr 1
end Go.Proofs.Ytjkdmnodamcjnaa.Act
