
/-
  Plain mathematics of the times (no program in it).
-/
namespace Go.Proofs.Ytkdmmomfolhfbaa.Conf
set_option linter.unusedVariables false
set_option linter.unusedSimpArgs false

def right (n : Int) : Bool := decide (3 ≤ n) && decide (n ≤ 8)
theorem right_spec {n : Int} : right n = true ↔ 3 ≤ n ∧ n ≤ 8 := by
  unfold right; simp
theorem right_no {n : Int} (h : ¬ (3 ≤ n ∧ n ≤ 8)) : right n = false := by
  rw [Bool.eq_false_iff]; intro h2; exact h (right_spec.1 h2)
/-- So many rounds. -/
def tm (n f : Int) : Int := if right n = true then f * n else 0
/-- A node's own time, and its error. -/
def own (n i f : Int) : Int := if right n = true then (if 0 ≤ i ∧ i < n then f * n + 1 + i else 0) else 0
def err (n i : Int) : Int := if right n = true then (if 0 ≤ i ∧ i < n then 0 else 2) else 1
theorem tm_yes {n f : Int} (h : right n = true) : tm n f = f * n := by unfold tm; rw [if_pos h]
theorem tm_no {n f : Int} (h : right n = false) : tm n f = 0 := by unfold tm; rw [if_neg (by rw [h]; decide)]
theorem own_yes {n i f : Int} (h : right n = true) (hi : 0 ≤ i ∧ i < n) : own n i f = f * n + 1 + i := by unfold own; rw [if_pos h, if_pos hi]
theorem own_none {n i f : Int} (h : right n = true) (hi : ¬ (0 ≤ i ∧ i < n)) : own n i f = 0 := by unfold own; rw [if_pos h, if_neg hi]
theorem own_no {n i f : Int} (h : right n = false) : own n i f = 0 := by unfold own; rw [if_neg (by rw [h]; decide)]
theorem err_yes {n i : Int} (h : right n = true) (hi : 0 ≤ i ∧ i < n) : err n i = 0 := by unfold err; rw [if_pos h, if_pos hi]
theorem err_none {n i : Int} (h : right n = true) (hi : ¬ (0 ≤ i ∧ i < n)) : err n i = 2 := by unfold err; rw [if_pos h, if_neg hi]
theorem err_no {n i : Int} (h : right n = false) : err n i = 1 := by unfold err; rw [if_neg (by rw [h]; decide)]
end Go.Proofs.Ytkdmmomfolhfbaa.Conf
/-
  Plain mathematics of counters (no program in it).
-/
namespace Go.Proofs.Ytkdmmomfolhfbaa.Tally
set_option linter.unusedVariables false
set_option linter.unusedSimpArgs false

def clamp (c l m : Int) : Int := if c < l then l else if m < c then m else c
def up (c m : Int) : Int := if m ≤ max c 0 then m else max c 0 + 1
def down (c : Int) : Int := if c ≤ 0 then 0 else c - 1
end Go.Proofs.Ytkdmmomfolhfbaa.Tally
/-
  Plain mathematics of slots in a round (no program in it).
-/
namespace Go.Proofs.Ytkdmmomfolhfbaa.Ring
set_option linter.unusedVariables false
set_option linter.unusedSimpArgs false

theorem tmod_bounds (n x : Int) (h : 0 < n) : -n < Int.tmod x n ∧ Int.tmod x n < n := by
  have h1 := Int.tmod_lt_of_pos x h
  have h2 := Int.lt_tmod_of_pos x h
  exact ⟨h2, h1⟩
theorem tmod_neg (n x : Int) (h : 0 < n) (h1 : Int.tmod x n < 0) : Int.tmod x n + n = x % n := by
  have h2 := tmod_bounds n x h
  have h3 := Int.tmod_add_mul_tdiv x n
  have h4 : (Int.tmod x n + n) % n = x % n := by
    rw [Int.add_emod_right]
    conv => rhs; rw [← h3]
    rw [Int.add_mul_emod_self_left]
  rw [← h4, Int.emod_eq_of_lt (by omega) (by omega)]
theorem tmod_pos (n x : Int) (h : 0 < n) (h1 : 0 ≤ Int.tmod x n) : Int.tmod x n = x % n := by
  have h2 := tmod_bounds n x h
  have h3 := Int.tmod_add_mul_tdiv x n
  have h4 : Int.tmod x n % n = x % n := by
    conv => rhs; rw [← h3]
    rw [Int.add_mul_emod_self_left]
  rw [← h4, Int.emod_eq_of_lt (by omega) (by omega)]
theorem tmod_two (n x : Int) (h : 0 < n) : Int.tmod (Int.tmod x n + n) n = x % n := by
  have h2 := tmod_bounds n x h
  rw [Int.tmod_eq_emod_of_nonneg (by omega), Int.add_emod_right]
  have h3 := Int.tmod_add_mul_tdiv x n
  conv => rhs; rw [← h3]
  rw [Int.add_mul_emod_self_left]
end Go.Proofs.Ytkdmmomfolhfbaa.Ring
/-
  Plain mathematics of what a hub knows (no program in it). A hub is twelve integers: ages 0 to 7, its port, its age, how long it holds, which slot is now.
-/
namespace Go.Proofs.Ytkdmmomfolhfbaa.Vote
set_option linter.unusedVariables false
set_option linter.unusedSimpArgs false

/-- The most that a port's age may be. -/
def most (n : Int) (j : Nat) : Int := if (j : Int) < n then n else 0
def Ok (n : Int) (f : Nat → Int) : Prop := (3 ≤ n ∧ n ≤ 8) ∧ (∀ j : Nat, j < 8 → 0 ≤ f j ∧ f j ≤ most n j) ∧ (0 ≤ f 8 ∧ f 8 ≤ n - 1) ∧ (0 ≤ f 9 ∧ f 9 ≤ 2 * n + 1) ∧ (0 ≤ f 10 ∧ f 10 ≤ 2 * n) ∧ (0 ≤ f 11 ∧ f 11 ≤ n - 1)
instance (n : Int) (f : Nat → Int) : Decidable (Ok n f) := by unfold Ok; infer_instance
def ok (n : Int) (f : Nat → Int) : Bool := decide (Ok n f)
theorem ok_iff {n : Int} {f : Nat → Int} : ok n f = true ↔ Ok n f := decide_eq_true_iff
theorem ok_no {n : Int} {f : Nat → Int} (h : ¬ Ok n f) : ok n f = false := decide_eq_false h
theorem most_yes {n : Int} {j : Nat} (h : (j : Int) < n) : most n j = n := if_pos h
theorem most_no {n : Int} {j : Nat} (h : ¬ (j : Int) < n) : most n j = 0 := if_neg h
/-- Which error a number of nodes has. -/
def err (n : Int) : Int := if Conf.right n = true then 0 else 1
theorem err_yes {n : Int} (h : Conf.right n = true) : err n = 0 := if_pos h
theorem err_no {n : Int} (h : Conf.right n = false) : err n = 1 := by unfold err; rw [h]; rfl
/-- A fresh one. -/
def fresh (n : Int) (j : Nat) : Int := if Conf.right n = true then (if j < 8 then most n j else if j = 9 then 2 * n + 1 else 0) else 0
/-- One made right. -/
def clean (n : Int) (f : Nat → Int) (j : Nat) : Int :=
  if Conf.right n = true then (if j < 8 then Tally.clamp (f j) 0 (most n j) else if j = 9 then Tally.clamp (f 9) 0 (2 * n + 1) else if j = 10 then Tally.clamp (f 10) 0 (2 * n) else f j % n) else 0
/-- A tick later. -/
def tick (n : Int) (f : Nat → Int) (j : Nat) : Int :=
  if ok n f = true then (if j < 8 then (if (j : Int) < n then Tally.up (f j) n else f j) else if j = 8 then f 8 else if j = 9 then Tally.up (f 9) (2 * n + 1) else if j = 10 then Tally.down (f 10) else (f 11 + 1) % n) else 0
def tickErr (n : Int) (f : Nat → Int) : Int := if ok n f = true then 0 else 1
/-- Does port 'p' vote for 'v'? -/
def said (n : Int) (f : Nat → Int) (v : Int) (p : Nat) : Bool := decide (f p < n) && (((p : Int) + f p) % n == v)
def held (n : Int) (f : Nat → Int) (v : Int) (p : Nat) : Bool := ((p : Int) == f 8) && decide (f 9 < 2 * n) && (((p : Int) + f 9) % n == v)
def vt (n : Int) (f : Nat → Int) (v : Int) (p : Nat) : Bool := said n f v p || held n f v p
/-- How many of the first 'K' ports vote for 'v'. -/
def cnt (n : Int) (f : Nat → Int) (v : Int) : Nat → Nat
  | 0 => 0
  | K + 1 => cnt n f v K + (if vt n f v K = true then 1 else 0)
def votes (n : Int) (f : Nat → Int) (v : Int) : Nat := if ok n f = true then cnt n f v n.toNat else 0
theorem cnt_le (n : Int) (f : Nat → Int) (v : Int) (K : Nat) : cnt n f v K ≤ K := by
  induction K with
  | zero => exact Nat.le_refl _
  | succ K ih => unfold cnt; split <;> omega
/-- The slot with most votes of the first 'K' ones. -/
def bestK (n : Int) (f : Nat → Int) : Nat → Nat
  | 0 => 0
  | K + 1 => if votes n f (bestK n f K) < votes n f K then K else bestK n f K
def best (n : Int) (f : Nat → Int) : Nat := if ok n f = true then bestK n f n.toNat else 0
def bestVotes (n : Int) (f : Nat → Int) : Nat := if ok n f = true then votes n f (best n f) else 0
theorem bestK_le (n : Int) (f : Nat → Int) (K : Nat) : bestK n f K ≤ K := by
  induction K with
  | zero => exact Nat.le_refl _
  | succ K ih => unfold bestK; split <;> omega
end Go.Proofs.Ytkdmmomfolhfbaa.Vote
/-
  Plain mathematics of votes (no program in it): what is made right may be, and so a tick later; a port votes once, the hub's port once more; a vote goes on with the slots.
-/
namespace Go.Proofs.Ytkdmmomfolhfbaa.Vote
set_option linter.unusedVariables false
set_option linter.unusedSimpArgs false

theorem clamp_in {c m : Int} (h : 0 ≤ m) : 0 ≤ Tally.clamp c 0 m ∧ Tally.clamp c 0 m ≤ m := by
  unfold Tally.clamp; split
  · omega
  · split <;> omega
theorem most_in {n : Int} (h : 3 ≤ n ∧ n ≤ 8) (j : Nat) : 0 ≤ most n j ∧ most n j ≤ n := by unfold most; split <;> omega
theorem ok_clean {n : Int} (f : Nat → Int) (hr : Conf.right n = true) : Ok n (clean n f) := by
  have h := Conf.right_spec.1 hr
  refine ⟨h, fun j hj => ?_, ?_, ?_, ?_, ?_⟩
  all_goals
    unfold clean
    rw [if_pos hr]
  · rw [if_pos hj]; exact clamp_in (most_in h j).1
  · have h1 := Int.emod_nonneg (f 8) (show n ≠ 0 by omega)
    have h2 := Int.emod_lt_of_pos (f 8) (show 0 < n by omega)
    simp only [show ¬ (8 : Nat) < 8 by decide, show ¬ (8 : Nat) = 9 by decide, show ¬ (8 : Nat) = 10 by decide, if_false]
    omega
  · simp only [show ¬ (9 : Nat) < 8 by decide, if_true, if_false]; exact clamp_in (by omega)
  · simp only [show ¬ (10 : Nat) < 8 by decide, show ¬ (10 : Nat) = 9 by decide, if_true, if_false]; exact clamp_in (by omega)
  · have h1 := Int.emod_nonneg (f 11) (show n ≠ 0 by omega)
    have h2 := Int.emod_lt_of_pos (f 11) (show 0 < n by omega)
    simp only [show ¬ (11 : Nat) < 8 by decide, show ¬ (11 : Nat) = 9 by decide, show ¬ (11 : Nat) = 10 by decide, if_false]
    omega
theorem up_in {c m : Int} (h : 0 ≤ c ∧ c ≤ m) : 0 ≤ Tally.up c m ∧ Tally.up c m ≤ m := by
  unfold Tally.up; split <;> omega
theorem up_min {c m : Int} (h : 0 ≤ c ∧ c ≤ m) : Tally.up c m = min (c + 1) m := by
  unfold Tally.up; split <;> omega
theorem down_max {c : Int} : Tally.down c = max (c - 1) 0 := by
  unfold Tally.down; split <;> omega
theorem tick_age {n : Int} {f : Nat → Int} (h : Ok n f) {j : Nat} (hj : j < 8) : tick n f j = if (j : Int) < n then Tally.up (f j) n else f j := by
  unfold tick; rw [if_pos (ok_iff.2 h), if_pos hj]
theorem tick_8 {n : Int} {f : Nat → Int} (h : Ok n f) : tick n f 8 = f 8 := by unfold tick; rw [if_pos (ok_iff.2 h)]; rfl
theorem tick_9 {n : Int} {f : Nat → Int} (h : Ok n f) : tick n f 9 = Tally.up (f 9) (2 * n + 1) := by unfold tick; rw [if_pos (ok_iff.2 h)]; rfl
theorem tick_10 {n : Int} {f : Nat → Int} (h : Ok n f) : tick n f 10 = Tally.down (f 10) := by unfold tick; rw [if_pos (ok_iff.2 h)]; rfl
theorem tick_11 {n : Int} {f : Nat → Int} (h : Ok n f) : tick n f 11 = (f 11 + 1) % n := by unfold tick; rw [if_pos (ok_iff.2 h)]; rfl
theorem ok_tick {n : Int} {f : Nat → Int} (h : Ok n f) : Ok n (tick n f) := by
  have hh := h
  obtain ⟨h38, hA, h8, h9, h10, h11⟩ := h
  refine ⟨h38, fun j hj => ?_, by rw [tick_8 hh]; exact h8, by rw [tick_9 hh]; exact up_in h9, ?_, ?_⟩
  · rw [tick_age hh hj]
    have := hA j hj
    by_cases hp : (j : Int) < n
    · rw [if_pos hp]
      rw [most_yes hp] at this ⊢
      exact up_in this
    · rw [if_neg hp]; exact this
  · rw [tick_10 hh, down_max]; omega
  · rw [tick_11 hh]
    have h1 := Int.emod_nonneg (f 11 + 1) (show n ≠ 0 by omega)
    have h2 := Int.emod_lt_of_pos (f 11 + 1) (show 0 < n by omega)
    omega
theorem votes_ok {n : Int} {f : Nat → Int} (h : Ok n f) (v : Int) : votes n f v = cnt n f v n.toNat := by unfold votes; rw [if_pos (ok_iff.2 h)]
/-- A vote that stays was for the slot before. -/
theorem mod_next {n x v : Int} (hn : 0 < n) (hv : 0 ≤ v ∧ v < n) (h : (x + 1) % n = (v + 1) % n) : x % n = v := by
  have h1 : (x + 1 - (v + 1)) % n = 0 := Int.emod_eq_emod_iff_emod_sub_eq_zero.1 h
  have h2 : (x - v) % n = 0 := by rw [show x - v = x + 1 - (v + 1) by omega]; exact h1
  have h3 := Int.emod_eq_emod_iff_emod_sub_eq_zero.2 h2
  rw [h3, Int.emod_eq_of_lt hv.1 hv.2]
theorem vt_later {n : Int} {f : Nat → Int} (h : Ok n f) {v : Int} (hv : 0 ≤ v ∧ v < n) {p : Nat} (hp : (p : Int) < n) (hh : vt n (tick n f) ((v + 1) % n) p = true) : vt n f v p = true := by
  have hk := h
  obtain ⟨h38, hA, h8, h9, -, -⟩ := hk
  have hap := hA p (by omega)
  rw [most_yes hp] at hap
  have e0 : tick n f p = Tally.up (f p) n := by rw [tick_age h (by omega), if_pos hp]
  unfold vt said held at hh ⊢
  rw [e0, tick_8 h, tick_9 h] at hh
  simp only [Bool.or_eq_true, Bool.and_eq_true, decide_eq_true_eq, beq_iff_eq] at hh ⊢
  rw [up_min hap, up_min h9] at hh
  rcases hh with ⟨q1, q2⟩ | ⟨⟨q1, q2⟩, q3⟩
  · left
    have e : min (f p + 1) n = f p + 1 := by omega
    rw [e] at q2
    exact ⟨by omega, mod_next (by omega) hv (by rw [← q2]; congr 1; omega)⟩
  · right
    have e : min (f 9 + 1) (2 * n + 1) = f 9 + 1 := by omega
    rw [e] at q3
    exact ⟨⟨q1, by omega⟩, mod_next (by omega) hv (by rw [← q3]; congr 1; omega)⟩
theorem cnt_later {n : Int} {f : Nat → Int} (h : Ok n f) {v : Int} (hv : 0 ≤ v ∧ v < n) (K : Nat) (hK : (K : Int) ≤ n) : cnt n (tick n f) ((v + 1) % n) K ≤ cnt n f v K := by
  induction K with
  | zero => exact Nat.le_refl _
  | succ K ih =>
    have := ih (by omega)
    unfold cnt
    by_cases q : vt n (tick n f) ((v + 1) % n) K = true
    · rw [if_pos q, if_pos (vt_later h hv (by omega) q)]; omega
    · rw [if_neg q]; split <;> omega
theorem votes_later {n : Int} {f : Nat → Int} (h : Ok n f) {v : Int} (hv : 0 ≤ v ∧ v < n) : votes n (tick n f) ((v + 1) % n) ≤ votes n f v := by
  rw [votes_ok (ok_tick h), votes_ok h]
  exact cnt_later h hv _ (by have := h.1; omega)
/-- All votes for the first 'M' slots. -/
def sum (n : Int) (f : Nat → Int) : Nat → Nat
  | 0 => 0
  | M + 1 => sum n f M + votes n f (M : Nat)
def b2n (b : Bool) : Nat := if b = true then 1 else 0
/-- How many slots of the first 'M' ones are the slot 'x'? -/
def one (x : Int) : Nat → Nat
  | 0 => 0
  | M + 1 => one x M + b2n (x == (M : Int))
theorem one_le (x : Int) (M : Nat) : one x M ≤ 1 ∧ ((M : Int) ≤ x → one x M = 0) := by
  induction M with
  | zero => exact ⟨Nat.zero_le _, fun _ => rfl⟩
  | succ M ih =>
    unfold one b2n
    by_cases e : x = (M : Int)
    · have h0 := ih.2 (by omega)
      rw [if_pos (by simp [e]), h0]
      exact ⟨by omega, fun h => by omega⟩
    · rw [if_neg (by simp [e])]
      exact ⟨by omega, fun h => by rw [ih.2 (by omega)]⟩
/-- All that the first 'K' ports say for the first 'M' slots. -/
def all (n : Int) (f : Nat → Int) (K : Nat) : Nat → Nat
  | 0 => 0
  | M + 1 => all n f K M + cnt n f (M : Nat) K
theorem all_zero (n : Int) (f : Nat → Int) (M : Nat) : all n f 0 M = 0 := by
  induction M with
  | zero => rfl
  | succ M ih => unfold all; rw [ih]; rfl
/-- The slot for which the hub's port votes. -/
theorem vt_two (n : Int) (f : Nat → Int) (v : Int) (p : Nat) : (if vt n f v p = true then 1 else 0) ≤ b2n (((p : Int) + f p) % n == v) + (if (p : Int) = f 8 then b2n ((f 8 + f 9) % n == v) else 0) := by
  unfold vt said held b2n
  by_cases e1 : ((p : Int) + f p) % n = v
  · rw [if_pos (show (((p : Int) + f p) % n == v) = true by simp [e1])]
    split <;> omega
  · by_cases e2 : (p : Int) = f 8
    · rw [if_pos e2, ← e2]
      by_cases e3 : ((p : Int) + f 9) % n = v
      · rw [if_pos (show (((p : Int) + f 9) % n == v) = true by simp [e3])]
        split <;> omega
      · simp [e1, e3]
    · simp [e1, e2]
theorem all_next (n : Int) (f : Nat → Int) (K M : Nat) : all n f (K + 1) M ≤ all n f K M + one (((K : Int) + f K) % n) M + (if (K : Int) = f 8 then one ((f 8 + f 9) % n) M else 0) := by
  induction M with
  | zero => exact Nat.zero_le _
  | succ M ih =>
    have h := vt_two n f (M : Int) K
    unfold all one
    rw [show cnt n f (M : Nat) (K + 1) = cnt n f (M : Nat) K + (if vt n f (M : Nat) K = true then 1 else 0) from rfl]
    by_cases e : (K : Int) = f 8
    · rw [if_pos e] at ih h ⊢; omega
    · rw [if_neg e] at ih h ⊢; omega
theorem all_le (n : Int) (f : Nat → Int) (K M : Nat) : all n f K M ≤ K + 1 ∧ ((K : Int) ≤ f 8 → all n f K M ≤ K) := by
  induction K with
  | zero => rw [all_zero]; exact ⟨by omega, fun _ => by omega⟩
  | succ K ih =>
    have h := all_next n f K M
    have h1 := (one_le (((K : Int) + f K) % n) M).1
    have h2 := (one_le ((f 8 + f 9) % n) M).1
    by_cases e : (K : Int) = f 8
    · rw [if_pos e] at h
      have := ih.2 (by omega)
      exact ⟨by omega, fun q => by omega⟩
    · rw [if_neg e] at h
      exact ⟨by omega, fun q => by have := ih.2 (by omega); omega⟩
theorem sum_all {n : Int} {f : Nat → Int} (h : Ok n f) (M : Nat) : sum n f M = all n f n.toNat M := by
  induction M with
  | zero => rfl
  | succ M ih => unfold sum all; rw [ih, votes_ok h]
theorem sum_le {m : Nat} {f : Nat → Int} (h : Ok m f) (M : Nat) : sum m f M ≤ m + 1 := by
  rw [sum_all h]
  exact (all_le _ _ _ _).1
theorem votes_sum (n : Int) (f : Nat → Int) (M v : Nat) (h : v < M) : votes n f (v : Nat) ≤ sum n f M := by
  induction M with
  | zero => omega
  | succ M ih =>
    unfold sum
    by_cases e : v = M
    · subst e; omega
    · have := ih (by omega); omega
theorem bestK_lt (n : Int) (f : Nat → Int) (K : Nat) (h : 0 < K) : bestK n f K < K := by
  induction K with
  | zero => omega
  | succ K ih =>
    unfold bestK
    split
    · omega
    · have := bestK_le n f K; omega
theorem best_facts {m : Nat} {f : Nat → Int} (h : Ok m f) : bestVotes m f ≤ m ∧ bestVotes m f ≤ sum m f m := by
  have h3 := h.1
  unfold bestVotes best
  rw [if_pos (ok_iff.2 h), if_pos (ok_iff.2 h)]
  refine ⟨?_, votes_sum _ _ _ _ (bestK_lt _ _ _ (by omega))⟩
  rw [votes_ok h]
  exact cnt_le _ _ _ _
/-- 'K' ticks behind 'f'. -/
structure Later (n : Int) (f : Nat → Int) (K : Nat) (g : Nat → Int) : Prop where
  ok : Ok n g
  ages : ∀ j : Nat, (j : Int) < n → g j = min (f j + K) n
  age : g 9 = min (f 9 + K) (2 * n + 1)
  hold : g 10 = max (f 10 - K) 0
  pos : g 11 = (f 11 + K) % n
theorem Later.zero {n : Int} {f : Nat → Int} (h : Ok n f) : Later n f 0 f := by
  have hh := h
  obtain ⟨h38, hA, h8, h9, h10, h11⟩ := hh
  refine ⟨h, fun j hj => ?_, by omega, by omega, ?_⟩
  · have := hA j (by omega)
    rw [most_yes hj] at this
    omega
  · rw [Int.emod_eq_of_lt (by omega) (by omega)]; omega
theorem Later.next {n : Int} {f g : Nat → Int} {K : Nat} (h : Later n f K g) : Later n f (K + 1) (tick n g) := by
  obtain ⟨h38, hA, h8, h9, h10, h11⟩ := h.ok
  refine ⟨ok_tick h.ok, fun j hj => ?_, ?_, ?_, ?_⟩
  · have := hA j (by omega)
    rw [most_yes hj] at this
    rw [tick_age h.ok (by omega), if_pos hj, up_min this, h.ages j hj]
    omega
  · rw [tick_9 h.ok, up_min h9, h.age]; omega
  · rw [tick_10 h.ok, down_max, h.hold]; omega
  · rw [tick_11 h.ok, h.pos, Int.emod_add_emod]; congr 1; omega
theorem Later.ends {m : Nat} {f g : Nat → Int} (hf : Ok m f) (h : Later m f (2 * m) g) : bestVotes m g = 0 ∧ g 10 = 0 ∧ g 11 = f 11 := by
  obtain ⟨h38, hA, h8, h9, h10, h11⟩ := hf
  refine ⟨?_, ?_, ?_⟩
  · have hv : ∀ v K, K ≤ m → cnt m g v K = 0 := by
      intro v K
      induction K with
      | zero => intro _; rfl
      | succ K ih =>
        intro hK
        unfold cnt
        rw [ih (by omega), if_neg]
        have e1 := h.ages K (by omega)
        have e2 := h.age
        have := hA K (by omega)
        unfold vt said held
        simp only [Bool.or_eq_true, Bool.and_eq_true, decide_eq_true_eq, beq_iff_eq]
        rintro (⟨q1, -⟩ | ⟨⟨-, q2⟩, -⟩) <;> omega
    unfold bestVotes
    rw [if_pos (ok_iff.2 h.ok), votes_ok h.ok]
    exact hv _ _ (by omega)
  · rw [h.hold]; omega
  · rw [h.pos, show f 11 + ((2 * m : Nat) : Int) = f 11 + (m : Int) * 2 by omega, Int.add_mul_emod_self_left]
    exact Int.emod_eq_of_lt (by omega) (by omega)
end Go.Proofs.Ytkdmmomfolhfbaa.Vote
/-
  Plain mathematics of what a hub lets through (no program in it). A list of frames is its integers: kind and number of the p-th one at 'p * 2' and 'p * 2 + 1'.
-/
namespace Go.Proofs.Ytkdmmomfolhfbaa.Gate
set_option linter.unusedVariables false
set_option linter.unusedSimpArgs false

open Vote (Ok ok votes best bestVotes most)
/-- Does port p's frame fit? -/
def At (l : Nat → Int) (p : Nat) : Prop := (l (p * 2) = 0 ∧ l (p * 2 + 1) = 0) ∨ ((l (p * 2) = 1 ∨ l (p * 2) = 2) ∧ l (p * 2 + 1) = p)
instance (l : Nat → Int) (p : Nat) : Decidable (At l p) := by unfold At; infer_instance
def Fits (n : Int) (m : Nat) (l : Nat → Int) : Prop := (3 ≤ n ∧ n ≤ 8) ∧ (m : Int) = n ∧ ∀ p, p < m → At l p
instance (n : Int) (m : Nat) (l : Nat → Int) : Decidable (Fits n m l) := by unfold Fits; infer_instance
def fits (n : Int) (m : Nat) (l : Nat → Int) : Bool := decide (Fits n m l)
theorem fits_iff {n : Int} {m : Nat} {l : Nat → Int} : fits n m l = true ↔ Fits n m l := decide_eq_true_iff
theorem fits_no {n : Int} {m : Nat} {l : Nat → Int} (h : ¬ Fits n m l) : fits n m l = false := decide_eq_false h
def wrong (n : Int) (f : Nat → Int) (m : Nat) (l : Nat → Int) : Int := if ok n f = true then (if fits n m l = true then 0 else 2) else 1
theorem wrong_zero {n : Int} {f : Nat → Int} {m : Nat} {l : Nat → Int} (h : Ok n f) (h2 : Fits n m l) : wrong n f m l = 0 := by
  unfold wrong; rw [if_pos (Vote.ok_iff.2 h), if_pos (fits_iff.2 h2)]
theorem wrong_of {n : Int} {f : Nat → Int} {m : Nat} {l : Nat → Int} (h : wrong n f m l = 0) : Ok n f ∧ Fits n m l := by
  unfold wrong at h
  split at h
  · rename_i h1
    split at h
    · rename_i h2; exact ⟨Vote.ok_iff.1 h1, fits_iff.1 h2⟩
    · omega
  · omega
/-- What was said is noted. -/
def note (n : Int) (f l : Nat → Int) (j : Nat) : Int := if (j : Int) < n ∧ l (j * 2) = 2 then 0 else f j
/-- Which slot it holds. -/
def settle (n : Int) (f : Nat → Int) (j : Nat) : Int :=
  if ok n f = true then
    (if 0 < f 10 then (if 2 ≤ votes n f (f 11) then (if j = 10 then 2 * n else f j) else f j)
     else if 2 ≤ bestVotes n f then (if j = 10 then 2 * n else if j = 11 then (best n f : Nat) else f j) else f j)
  else 0
/-- The least port below 'K' that took in a Cs ('K' if none did). -/
def first (l : Nat → Int) (K : Nat) : Nat → Nat
  | 0 => K
  | d + 1 => if l ((K - (d + 1)) * 2) = 1 then K - (d + 1) else first l K d
/-- Which way a relay goes: its owner's Info (1), a Cs (2), nothing (0). -/
def way (n : Int) (f l : Nat → Int) (m : Nat) : Nat :=
  if 0 < f 10 then (if l ((f 11).toNat * 2) = 2 then 1 else 0) else if 2 * n < f 9 then (if first l m m < m then 2 else 0) else 0
def port (f l : Nat → Int) (m : Nat) : Nat := if 0 < f 10 then (f 11).toNat else first l m m
def relay (n : Int) (f l : Nat → Int) (m j : Nat) : Int :=
  if way n f l m = 1 then (if j = 10 then 2 * n else f j)
  else if way n f l m = 2 then (if j < 8 then most n j else if j = 8 then (port f l m : Nat) else if j = 9 then 0 else f j)
  else f j
def relayed (n : Int) (f l : Nat → Int) (m i : Nat) : Int := if way n f l m = 0 then 0 else l (port f l m * 2 + i)
theorem first_le (l : Nat → Int) (K d : Nat) (h : d ≤ K) : first l K d ≤ K := by
  induction d with
  | zero => exact Nat.le_refl _
  | succ d ih =>
    unfold first
    split
    · omega
    · exact ih (by omega)
theorem first_cs (l : Nat → Int) (K d : Nat) (h : d ≤ K) (hf : first l K d < K) : l (first l K d * 2) = 1 := by
  induction d with
  | zero => unfold first at hf; omega
  | succ d ih =>
    unfold first at hf ⊢
    split
    · assumption
    · rename_i h2; rw [if_neg h2] at hf; exact ih (by omega) hf
theorem votes_like {n : Int} {f g : Nat → Int} (hf : Ok n f) (hg : Ok n g) (h : ∀ j, j < 10 → f j = g j) (v : Int) : votes n f v = votes n g v := by
  rw [Vote.votes_ok hf, Vote.votes_ok hg]
  have h3 := hf.1
  have hv : ∀ K : Nat, (K : Int) ≤ n → Vote.cnt n f v K = Vote.cnt n g v K := by
    intro K
    induction K with
    | zero => intro _; rfl
    | succ K ih =>
      intro hK
      unfold Vote.cnt
      rw [ih (by omega)]
      have e : Vote.vt n f v K = Vote.vt n g v K := by
        unfold Vote.vt Vote.said Vote.held
        rw [h K (by omega), h 8 (by omega), h 9 (by omega)]
      rw [e]
  exact hv _ (by omega)
theorem bestK_like {n : Int} {f g : Nat → Int} (hf : Ok n f) (hg : Ok n g) (h : ∀ j, j < 10 → f j = g j) (K : Nat) : Vote.bestK n f K = Vote.bestK n g K := by
  induction K with
  | zero => rfl
  | succ K ih => unfold Vote.bestK; rw [ih, votes_like hf hg h, votes_like hf hg h]
theorem best_like {n : Int} {f g : Nat → Int} (hf : Ok n f) (hg : Ok n g) (h : ∀ j, j < 10 → f j = g j) : best n f = best n g ∧ bestVotes n f = bestVotes n g := by
  unfold bestVotes best
  rw [if_pos (Vote.ok_iff.2 hf), if_pos (Vote.ok_iff.2 hg), if_pos (Vote.ok_iff.2 hf), if_pos (Vote.ok_iff.2 hg), bestK_like hf hg h, votes_like hf hg h]
  exact ⟨rfl, rfl⟩
theorem best_lt {n : Int} {f : Nat → Int} (h : Ok n f) : (best n f : Int) < n := by
  unfold best
  rw [if_pos (Vote.ok_iff.2 h)]
  have := Vote.bestK_lt n f n.toNat (by have := h.1; omega)
  have := h.1
  omega
theorem votes_best {n : Int} {f : Nat → Int} (h : Ok n f) : votes n f (best n f : Nat) = bestVotes n f := by
  unfold bestVotes; rw [if_pos (Vote.ok_iff.2 h)]
/-- Numbers 10 and 11 may be anything in their bounds. -/
theorem ok_set {n : Int} {f g : Nat → Int} (h : Ok n f) (e : ∀ j, j < 10 → g j = f j) (h10 : 0 ≤ g 10 ∧ g 10 ≤ 2 * n) (h11 : 0 ≤ g 11 ∧ g 11 ≤ n - 1) : Ok n g := by
  obtain ⟨h38, hA, h8, h9, -, -⟩ := h
  exact ⟨h38, fun j hj => by rw [e j (by omega)]; exact hA j hj, by rw [e 8 (by omega)]; exact h8, by rw [e 9 (by omega)]; exact h9, h10, h11⟩
theorem settle_low {n : Int} {f : Nat → Int} (h : Ok n f) (j : Nat) (hj : j < 10) : settle n f j = f j := by
  unfold settle
  rw [if_pos (Vote.ok_iff.2 h)]
  have e1 : ¬ j = 10 := by omega
  have e2 : ¬ j = 11 := by omega
  simp only [if_neg e1, if_neg e2]
  by_cases q : 0 < f 10
  · rw [if_pos q]; split <;> rfl
  · rw [if_neg q]; split <;> rfl
theorem settle_10 {n : Int} {f : Nat → Int} (h : Ok n f) : settle n f 10 = (if 0 < f 10 then (if 2 ≤ votes n f (f 11) then 2 * n else f 10) else if 2 ≤ bestVotes n f then 2 * n else f 10) := by
  unfold settle; rw [if_pos (Vote.ok_iff.2 h)]; rfl
theorem settle_11 {n : Int} {f : Nat → Int} (h : Ok n f) : settle n f 11 = (if 0 < f 10 then f 11 else if 2 ≤ bestVotes n f then (best n f : Nat) else f 11) := by
  unfold settle; rw [if_pos (Vote.ok_iff.2 h)]
  (repeat split) <;> first | rfl | omega
theorem ok_settle {n : Int} {f : Nat → Int} (h : Ok n f) : Ok n (settle n f) := by
  have hh := h
  have hb := best_lt h
  obtain ⟨h38, hA, h8, h9, h10, h11⟩ := hh
  refine ok_set h (fun j hj => settle_low h j hj) ?_ ?_
  · rw [settle_10 h]; (repeat split) <;> omega
  · rw [settle_11 h]; (repeat split) <;> omega
theorem settle_again {n : Int} {f : Nat → Int} (h : Ok n f) (j : Nat) (hj : j < 12) : settle n (settle n f) j = settle n f j := by
  have hs := ok_settle h
  have hl : ∀ j, j < 10 → settle n f j = f j := fun j hj => settle_low h j hj
  have hv : ∀ v, votes n (settle n f) v = votes n f v := fun v => votes_like hs h hl v
  obtain ⟨hb1, hb2⟩ := best_like hs h hl
  have h3 := h.1
  have h10 := h.2.2.2.2.1
  by_cases hj2 : j < 10
  · rw [settle_low hs j hj2]
  · have h2 : j = 10 ∨ j = 11 := by omega
    have e10 := settle_10 h
    have e11 := settle_11 h
    have hvb := votes_best h
    rcases h2 with rfl | rfl
    · rw [settle_10 hs, hv, hb2]
      by_cases q1 : 0 < f 10
      · rw [if_pos q1] at e10 e11
        rw [e11]
        by_cases q2 : 2 ≤ votes n f (f 11)
        · rw [if_pos q2] at e10 ⊢
          rw [e10, if_pos (by omega)]
        · rw [if_neg q2] at e10 ⊢
          rw [e10, if_pos q1]
      · rw [if_neg q1] at e10 e11
        by_cases q2 : 2 ≤ bestVotes n f
        · rw [if_pos q2] at e10 e11
          rw [e10, e11, if_pos (by omega), hvb, if_pos q2]
        · rw [if_neg q2] at e10
          rw [e10, if_neg q1, if_neg q2]
    · rw [settle_11 hs, hb1, hb2]
      by_cases q1 : 0 < f 10
      · have : 0 < settle n f 10 := by rw [e10, if_pos q1]; split <;> omega
        rw [if_pos this]
      · rw [if_neg q1] at e10 e11
        by_cases q2 : 2 ≤ bestVotes n f
        · rw [if_pos q2] at e10
          rw [if_pos (by omega)]
        · rw [if_neg q2] at e10 e11
          rw [e10, if_neg q1, if_neg q2]
theorem way_lt {n : Int} {f l : Nat → Int} {m : Nat} (h : Ok n f) (hm : (m : Int) = n) (hw : way n f l m ≠ 0) : port f l m < m := by
  have h11 := h.2.2.2.2.2
  unfold way at hw
  unfold port
  by_cases q : 0 < f 10
  · rw [if_pos q]; omega
  · rw [if_neg q] at hw ⊢
    split at hw
    · split at hw
      · assumption
      · exact absurd rfl hw
    · exact absurd rfl hw
theorem ok_relay {n : Int} {f l : Nat → Int} {m : Nat} (h : Ok n f) (hm : (m : Int) = n) : Ok n (relay n f l m) := by
  have hh := h
  obtain ⟨h38, hA, h8, h9, h10, h11⟩ := hh
  unfold relay
  by_cases w1 : way n f l m = 1
  · simp only [w1, if_true]
    exact ok_set h (fun j hj => if_neg (by omega)) ⟨by rw [if_pos rfl]; omega, by rw [if_pos rfl]; omega⟩ ⟨by rw [if_neg (by omega)]; omega, by rw [if_neg (by omega)]; omega⟩
  · simp only [if_neg w1]
    by_cases w2 : way n f l m = 2
    · simp only [if_pos w2]
      have hp := way_lt (l := l) h hm (by omega)
      refine ⟨h38, fun j hj => ?_, ?_, ?_, h10, h11⟩
      · show 0 ≤ (if j < 8 then most n j else _) ∧ (if j < 8 then most n j else _) ≤ most n j
        rw [if_pos hj]
        have := Vote.most_in h38 j
        omega
      · simp only [show ¬ (8 : Nat) < 8 by decide, if_false, if_true]; omega
      · simp only [show ¬ (9 : Nat) < 8 by decide, show ¬ (9 : Nat) = 8 by decide, if_false, if_true]; omega
    · simp only [if_neg w2]; exact h
theorem note_votes {n : Int} {f l : Nat → Int} {p : Nat} (h : Ok n (note n f l)) (hp : (p : Int) < n) (hl : l (p * 2) = 2) : 1 ≤ votes n (note n f l) (p : Nat) := by
  have h38 := h.1
  rw [Vote.votes_ok h]
  have hs : Vote.vt n (note n f l) (p : Nat) p = true := by
    unfold Vote.vt Vote.said
    rw [show note n f l p = 0 from if_pos ⟨hp, hl⟩]
    have e : ((p : Int) + 0) % n = p := by rw [Int.add_zero]; exact Int.emod_eq_of_lt (by omega) hp
    rw [e]
    simp; omega
  have key : ∀ K : Nat, p < K → 1 ≤ Vote.cnt n (note n f l) (p : Nat) K := by
    intro K
    induction K with
    | zero => intro h; omega
    | succ K ih =>
      intro h
      unfold Vote.cnt
      by_cases e : p = K
      · subst e; rw [if_pos hs]; omega
      · have := ih (by omega); omega
  exact key _ (by omega)
theorem ok_note {n : Int} {f l : Nat → Int} (h : Ok n f) : Ok n (note n f l) := by
  have hh := h
  obtain ⟨h38, hA, h8, h9, h10, h11⟩ := hh
  have e : ∀ j : Nat, 8 ≤ j → note n f l j = f j := fun j hj => if_neg (by omega)
  refine ⟨h38, fun j hj => ?_, by rw [e 8 (by omega)]; exact h8, by rw [e 9 (by omega)]; exact h9, by rw [e 10 (by omega)]; exact h10, by rw [e 11 (by omega)]; exact h11⟩
  have := hA j hj
  unfold note
  split <;> omega
end Go.Proofs.Ytkdmmomfolhfbaa.Gate
/-
  Plain mathematics of a hub's ticks (no program in it).
-/
namespace Go.Proofs.Ytkdmmomfolhfbaa.Hub
set_option linter.unusedVariables false
set_option linter.unusedSimpArgs false

open Vote (Ok ok votes best bestVotes most)
open Gate (Fits)
/-- A hub before it relays. -/
def mid (n : Int) (f l : Nat → Int) : Nat → Int := Gate.settle n (Gate.note n (Vote.tick n f) l)
def step (n : Int) (f l : Nat → Int) (m : Nat) : Nat → Int := Gate.relay n (mid n f l) l m
def out (n : Int) (f l : Nat → Int) (m : Nat) : Nat → Int := Gate.relayed n (mid n f l) l m
theorem ok_noted {n : Int} {f l : Nat → Int} (h : Ok n f) : Ok n (Gate.note n (Vote.tick n f) l) := Gate.ok_note (Vote.ok_tick h)
theorem ok_mid {n : Int} {f l : Nat → Int} (h : Ok n f) : Ok n (mid n f l) := Gate.ok_settle (ok_noted h)
theorem ok_step {n : Int} {f l : Nat → Int} {m : Nat} (h : Ok n f) (hm : (m : Int) = n) : Ok n (step n f l m) := Gate.ok_relay (ok_mid h) hm
theorem note_high {n : Int} {f l : Nat → Int} (h : 3 ≤ n ∧ n ≤ 8) {j : Nat} (hj : 8 ≤ j) : Gate.note n f l j = f j := if_neg (by omega)
theorem mid_8 {n : Int} {f l : Nat → Int} (h : Ok n f) : mid n f l 8 = f 8 := by
  unfold mid; rw [Gate.settle_low (ok_noted h) 8 (by omega), note_high h.1 (by omega), Vote.tick_8 h]
theorem mid_9 {n : Int} {f l : Nat → Int} (h : Ok n f) : mid n f l 9 = Tally.up (f 9) (2 * n + 1) := by
  unfold mid; rw [Gate.settle_low (ok_noted h) 9 (by omega), note_high h.1 (by omega), Vote.tick_9 h]
theorem noted_10 {n : Int} {f l : Nat → Int} (h : Ok n f) : Gate.note n (Vote.tick n f) l 10 = Tally.down (f 10) := by rw [note_high h.1 (by omega), Vote.tick_10 h]
theorem noted_11 {n : Int} {f l : Nat → Int} (h : Ok n f) : Gate.note n (Vote.tick n f) l 11 = (f 11 + 1) % n := by rw [note_high h.1 (by omega), Vote.tick_11 h]
/-- What holds a slot for two ticks or more holds the next one. -/
theorem mid_held {n : Int} {f l : Nat → Int} (h : Ok n f) (h2 : 2 ≤ f 10) : mid n f l 11 = (f 11 + 1) % n ∧ f 10 - 1 ≤ mid n f l 10 := by
  have h10 := h.2.2.2.2.1
  have e10 : Gate.note n (Vote.tick n f) l 10 = f 10 - 1 := by rw [noted_10 h, Vote.down_max]; omega
  unfold mid
  rw [Gate.settle_11 (ok_noted h), Gate.settle_10 (ok_noted h), e10, if_pos (by omega), if_pos (by omega), noted_11 h]
  refine ⟨rfl, ?_⟩
  split <;> omega
theorem way_held {n : Int} {g l : Nat → Int} {m : Nat} (h : 0 < g 10) : Gate.way n g l m = if l ((g 11).toNat * 2) = 2 then 1 else 0 := by unfold Gate.way; rw [if_pos h]
theorem relay_11 {n : Int} {g l : Nat → Int} {m : Nat} : Gate.relay n g l m 11 = g 11 := by
  unfold Gate.relay
  (repeat split) <;> first | rfl | omega
theorem relay_10 {n : Int} {g l : Nat → Int} {m : Nat} : Gate.relay n g l m 10 = if Gate.way n g l m = 1 then 2 * n else g 10 := by
  unfold Gate.relay
  by_cases a : Gate.way n g l m = 1
  · rw [if_pos a, if_pos a]; rfl
  · rw [if_neg a, if_neg a]; split <;> rfl
theorem relay_9 {n : Int} {g l : Nat → Int} {m : Nat} : Gate.relay n g l m 9 = if Gate.way n g l m = 2 then 0 else g 9 := by
  unfold Gate.relay
  by_cases a : Gate.way n g l m = 1
  · rw [if_pos a, if_neg (show ¬ Gate.way n g l m = 2 by omega)]; rfl
  · rw [if_neg a]; split <;> rfl
/-- A held slot is held a slot further. -/
theorem step_held {m : Nat} {f l : Nat → Int} (h : Ok m f) (h2 : 2 ≤ f 10) :
    step m f l m 11 = (f 11 + 1) % m ∧ f 10 - 1 ≤ step m f l m 10 ∧
    (l (((f 11 + 1) % (m : Int)).toNat * 2) = 2 → step m f l m 10 = 2 * m ∧ ∀ i, out m f l m i = l (((f 11 + 1) % (m : Int)).toNat * 2 + i)) ∧ (l (((f 11 + 1) % (m : Int)).toNat * 2) ≠ 2 → ∀ i, out m f l m i = 0) := by
  obtain ⟨e11, e10⟩ := mid_held (l := l) h h2
  have hg : 0 < mid m f l 10 := by omega
  have hw := way_held (n := m) (l := l) (m := m) hg
  have hk := ok_mid (l := l) h
  have h10 := hk.2.2.2.2.1
  rw [e11] at hw
  refine ⟨by unfold step; rw [relay_11, e11], ?_, fun hl => ?_, fun hl i => ?_⟩
  · unfold step; rw [relay_10]; split <;> omega
  · rw [if_pos hl] at hw
    refine ⟨by unfold step; rw [relay_10, if_pos hw], fun i => ?_⟩
    unfold out Gate.relayed Gate.port
    rw [if_neg (by omega), if_pos hg, e11]
  · rw [if_neg hl] at hw
    unfold out Gate.relayed
    rw [if_pos hw]
/-- The first that took in a Cs is the least. -/
theorem first_min (l : Nat → Int) (K d : Nat) (hd : d ≤ K) (p : Nat) (hp : K - d ≤ p) (hpf : p < Gate.first l K d) : l (p * 2) ≠ 1 := by
  induction d with
  | zero => unfold Gate.first at hpf; omega
  | succ d ih =>
    unfold Gate.first at hpf
    by_cases e : l ((K - (d + 1)) * 2) = 1
    · rw [if_pos e] at hpf; omega
    · rw [if_neg e] at hpf
      by_cases e2 : p = K - (d + 1)
      · rw [e2]; exact e
      · exact ih (by omega) (by omega) hpf
/-- How old the last Cs is, a tick later. -/
theorem step_age {n : Int} {f l : Nat → Int} {m : Nat} (h : Ok n f) : (Gate.way n (mid n f l) l m = 2 → step n f l m 9 = 0 ∧ 2 * n < mid n f l 9) ∧ (Gate.way n (mid n f l) l m ≠ 2 → step n f l m 9 = mid n f l 9) ∧ mid n f l 9 ≤ f 9 + 1 := by
  refine ⟨fun hw => ⟨by unfold step; rw [relay_9, if_pos hw], ?_⟩, fun hw => by unfold step; rw [relay_9, if_neg hw], ?_⟩
  · unfold Gate.way at hw
    split at hw
    · split at hw <;> omega
    · split at hw
      · assumption
      · omega
  · have h9 := h.2.2.2.1
    rw [mid_9 h, Vote.up_min h9]; omega
/-- Nobody votes. -/
theorem votes_none {n : Int} {g : Nat → Int} (h : Ok n g) (ha : ∀ j : Nat, (j : Int) < n → n ≤ g j) (h9 : 2 * n ≤ g 9) (v : Int) : votes n g v = 0 := by
  rw [Vote.votes_ok h]
  have h3 := h.1
  have hv : ∀ K : Nat, (K : Int) ≤ n → Vote.cnt n g v K = 0 := by
    intro K
    induction K with
    | zero => intro _; rfl
    | succ K ih =>
      intro hK
      unfold Vote.cnt
      rw [ih (by omega), if_neg]
      have := ha K (by omega)
      unfold Vote.vt Vote.said Vote.held
      simp only [Bool.or_eq_true, Bool.and_eq_true, decide_eq_true_eq, beq_iff_eq]
      rintro (⟨q1, -⟩ | ⟨⟨-, q2⟩, -⟩) <;> omega
  exact hv _ (by omega)
theorem best_none {n : Int} {g : Nat → Int} (h : Ok n g) (ha : ∀ j : Nat, (j : Int) < n → n ≤ g j) (h9 : 2 * n ≤ g 9) : bestVotes n g = 0 := by
  unfold bestVotes; rw [if_pos (Vote.ok_iff.2 h)]; exact votes_none h ha h9 _
theorem settle_quiet {n : Int} {g : Nat → Int} (h : Ok n g) (ha : ∀ j : Nat, (j : Int) < n → n ≤ g j) (h9 : 2 * n ≤ g 9) (j : Nat) : Gate.settle n g j = g j := by
  unfold Gate.settle
  rw [if_pos (Vote.ok_iff.2 h), votes_none h ha h9, best_none h ha h9]
  split <;> rfl
/-- Nothing is taken in, but a Cs perhaps: nothing is noted. -/
theorem note_none {n : Int} {g l : Nat → Int} (hl : ∀ p : Nat, (p : Int) < n → l (p * 2) ≠ 2) : Gate.note n g l = g := by
  funext j; unfold Gate.note
  by_cases q : (j : Int) < n ∧ l (j * 2) = 2
  · exact absurd q.2 (hl j q.1)
  · rw [if_neg q]
/-- 'K' ticks without anything. -/
structure Silent (n : Int) (K : Nat) (g : Nat → Int) : Prop where
  ok : Ok n g
  ages : ∀ j : Nat, (j : Int) < n → min (K : Int) n ≤ g j
  age : min (K : Int) (2 * n + 1) ≤ g 9
  hold : 2 * n ≤ K → g 10 ≤ max (4 * n - K) 0
theorem Silent.zero {n : Int} {f : Nat → Int} (h : Ok n f) : Silent n 0 f := by
  have hh := h
  obtain ⟨h38, hA, h8, h9, h10, h11⟩ := hh
  refine ⟨h, fun j hj => ?_, by omega, fun q => by omega⟩
  have := hA j (by omega)
  omega
theorem Silent.next {n : Int} {f l : Nat → Int} {m K : Nat} (h : Silent n K f) (hm : (m : Int) = n) (hl : ∀ p : Nat, (p : Int) < n → l (p * 2) = 0) : Silent n (K + 1) (step n f l m) ∧ ∀ i, out n f l m i = 0 := by
  have hok := h.ok
  obtain ⟨h38, hA, h8, h9, h10, h11⟩ := hok
  have hn : Gate.note n (Vote.tick n f) l = Vote.tick n f := note_none (fun p hp => by rw [hl p hp]; omega)
  have ht := Vote.ok_tick h.ok
  have hw : Gate.way n (mid n f l) l m = 0 := by
    have hk := ok_mid (l := l) h.ok
    have k11 := hk.2.2.2.2.2
    unfold Gate.way
    by_cases a : 0 < mid n f l 10
    · rw [if_pos a, if_neg]
      rw [hl _ (by omega)]; omega
    · rw [if_neg a]
      have e : ∀ d, d ≤ m → Gate.first l m d = m := by
        intro d
        induction d with
        | zero => intro _; rfl
        | succ d ih =>
          intro hd
          unfold Gate.first
          rw [if_neg (by rw [hl _ (by omega)]; omega)]
          exact ih (by omega)
      rw [e m (Nat.le_refl _)]
      split
      · rw [if_neg (by omega)]
      · rfl
  have hs : step n f l m = mid n f l := by
    funext j; unfold step Gate.relay; rw [hw]; rfl
  have hages : ∀ j : Nat, (j : Int) < n → Vote.tick n f j = min (f j + 1) n := fun j hj => by
    have := hA j (by omega)
    rw [Vote.most_yes hj] at this
    rw [Vote.tick_age h.ok (by omega), if_pos hj, Vote.up_min this]
  have e9 : Vote.tick n f 9 = min (f 9 + 1) (2 * n + 1) := by rw [Vote.tick_9 h.ok, Vote.up_min h9]
  refine ⟨⟨ok_step h.ok hm, fun j hj => ?_, ?_, fun q => ?_⟩, fun i => by unfold out Gate.relayed; rw [if_pos hw]⟩
  · rw [hs]; unfold mid; rw [hn, Gate.settle_low ht j (by omega), hages j hj]
    have := h.ages j hj
    omega
  · rw [hs, mid_9 h.ok, Vote.up_min h9]
    have := h.age
    omega
  · have e10 : mid n f l 10 = Tally.down (f 10) := by
      unfold mid
      rw [hn, settle_quiet ht (fun j hj => by rw [hages j hj]; have := h.ages j hj; omega) (by rw [e9]; have := h.age; omega), Vote.tick_10 h.ok]
    rw [hs, e10, Vote.down_max]
    by_cases q2 : 2 * n ≤ K
    · have := h.hold q2; omega
    · omega
/-- A Cs behind all that. -/
theorem Silent.cs {n : Int} {f l : Nat → Int} {m p : Nat} (h : Silent n (4 * m + 1) f) (hm : (m : Int) = n) (hp : p < m) (h1 : l (p * 2) = 1) (h2 : l (p * 2 + 1) = p) (hl : ∀ q : Nat, (q : Int) < n → q ≠ p → l (q * 2) = 0) :
    f 10 = 0 ∧ (∀ i, out n f l m i = l (p * 2 + i)) ∧ step n f l m 8 = p ∧ step n f l m 9 = 0 := by
  have hok := h.ok
  obtain ⟨h38, hA, h8, h9, h10, h11⟩ := hok
  have hold := h.hold (by omega)
  have hage := h.age
  have f0 : f 10 = 0 := by omega
  have hn : Gate.note n (Vote.tick n f) l = Vote.tick n f := note_none (fun q hq => by
    by_cases e : q = p
    · rw [e, h1]; omega
    · rw [hl q hq e]; omega)
  have ht := Vote.ok_tick h.ok
  have hages : ∀ j : Nat, (j : Int) < n → n ≤ Vote.tick n f j := fun j hj => by
    have := hA j (by omega)
    rw [Vote.most_yes hj] at this
    rw [Vote.tick_age h.ok (by omega), if_pos hj, Vote.up_min this]
    have := h.ages j hj
    omega
  have e9 : Vote.tick n f 9 = 2 * n + 1 := by rw [Vote.tick_9 h.ok, Vote.up_min h9]; omega
  have e10 : mid n f l 10 = 0 := by
    unfold mid
    rw [hn, settle_quiet ht hages (by omega), Vote.tick_10 h.ok, Vote.down_max]; omega
  have m9 : mid n f l 9 = 2 * n + 1 := by rw [mid_9 h.ok, Vote.up_min h9]; omega
  have hfirst : ∀ d, d ≤ m → m - d ≤ p → Gate.first l m d = p := by
    intro d
    induction d with
    | zero => intro _ h; omega
    | succ d ih =>
      intro hd hq
      unfold Gate.first
      by_cases e : m - (d + 1) = p
      · rw [e, if_pos h1]
      · rw [if_neg (by rw [hl _ (by omega) e]; omega)]
        exact ih (by omega) (by omega)
  have hf := hfirst m (Nat.le_refl _) (by omega)
  have hw : Gate.way n (mid n f l) l m = 2 := by
    unfold Gate.way
    rw [e10, if_neg (by omega), m9, if_pos (by omega), hf, if_pos hp]
  have hport : Gate.port (mid n f l) l m = p := by unfold Gate.port; rw [e10, if_neg (by omega), hf]
  refine ⟨f0, fun i => ?_, ?_, ?_⟩
  · unfold out Gate.relayed; rw [if_neg (by omega), hport]
  · unfold step Gate.relay; rw [if_neg (by omega), if_pos hw, hport]; rfl
  · unfold step Gate.relay; rw [if_neg (by omega), if_pos hw]; rfl
end Go.Proofs.Ytkdmmomfolhfbaa.Hub
/-
  Plain mathematics of a hub's ticks, one behind another (no program in it).
-/
namespace Go.Proofs.Ytkdmmomfolhfbaa.Hub
set_option linter.unusedVariables false
set_option linter.unusedSimpArgs false

open Vote (Ok ok)
/-- The hub behind 'K' ticks. -/
def hubK (n : Int) (f : Nat → Int) (len : Nat → Nat) (l : Nat → Nat → Int) : Nat → Nat → Int
  | 0 => f
  | K + 1 => step n (hubK n f len l K) (l K) (len K)
/-- What it relayed in each. -/
def outs (n : Int) (f : Nat → Int) (len : Nat → Nat) (l : Nat → Nat → Int) (j : Nat) : Int := out n (hubK n f len l (j / 2)) (l (j / 2)) (len (j / 2)) (j % 2)
/-- The first error of the first 'K' ticks. -/
def errK (n : Int) (f : Nat → Int) (len : Nat → Nat) (l : Nat → Nat → Int) : Nat → Int
  | 0 => 0
  | K + 1 => if errK n f len l K = 0 then Gate.wrong n (hubK n f len l K) (len K) (l K) else errK n f len l K
def runE (n : Int) (f : Nat → Int) (N : Nat) (len : Nat → Nat) (l : Nat → Nat → Int) : Int := if ok n f = true then errK n f len l N else 1
def runH (n : Int) (f : Nat → Int) (N : Nat) (len : Nat → Nat) (l : Nat → Nat → Int) (j : Nat) : Int := if runE n f N len l = 0 then hubK n f len l N j else 0
def runN (n : Int) (f : Nat → Int) (N : Nat) (len : Nat → Nat) (l : Nat → Nat → Int) : Nat := if runE n f N len l = 0 then N else 0
theorem errK_stays {n : Int} {f : Nat → Int} {len : Nat → Nat} {l : Nat → Nat → Int} {K : Nat} (h : errK n f len l K ≠ 0) (M : Nat) (hM : K ≤ M) : errK n f len l M = errK n f len l K := by
  induction M with
  | zero => obtain rfl : K = 0 := by omega
            rfl
  | succ M ih =>
    by_cases e : K = M + 1
    · rw [e]
    · have := ih (by omega)
      rw [show errK n f len l (M + 1) = if errK n f len l M = 0 then Gate.wrong n (hubK n f len l M) (len M) (l M) else errK n f len l M from rfl, if_neg (by rw [this]; exact h), this]
theorem errK_good {n : Int} {f : Nat → Int} {len : Nat → Nat} {l : Nat → Nat → Int} {M : Nat} (h : errK n f len l M = 0) (K : Nat) (hK : K < M) : errK n f len l K = 0 ∧ Gate.wrong n (hubK n f len l K) (len K) (l K) = 0 := by
  have h0 : ∀ J, J ≤ M → errK n f len l J = 0 := fun J hJ => by
    by_cases e : errK n f len l J = 0
    · exact e
    · rw [← errK_stays e M hJ]; exact h
  refine ⟨h0 K (by omega), ?_⟩
  have := h0 (K + 1) (by omega)
  unfold errK at this
  rw [if_pos (h0 K (by omega))] at this
  exact this
theorem errK_next {n : Int} {f : Nat → Int} {len : Nat → Nat} {l : Nat → Nat → Int} {K : Nat} (h : errK n f len l K = 0) : errK n f len l (K + 1) = Gate.wrong n (hubK n f len l K) (len K) (l K) := if_pos h
theorem hubK_ok {n : Int} {f : Nat → Int} {len : Nat → Nat} {l : Nat → Nat → Int} (hf : Ok n f) (M : Nat) (h : errK n f len l M = 0) : Ok n (hubK n f len l M) := by
  induction M with
  | zero => exact hf
  | succ M ih =>
    obtain ⟨e, hw⟩ := errK_good h M (by omega)
    have hfit := (Gate.wrong_of hw).2
    exact ok_step (ih e) hfit.2.1
theorem outs_0 (n : Int) (f : Nat → Int) (len : Nat → Nat) (l : Nat → Nat → Int) (K : Nat) : outs n f len l (K * 2) = out n (hubK n f len l K) (l K) (len K) 0 := by
  unfold outs; rw [show K * 2 / 2 = K by omega, show K * 2 % 2 = 0 by omega]
theorem outs_1 (n : Int) (f : Nat → Int) (len : Nat → Nat) (l : Nat → Nat → Int) (K : Nat) : outs n f len l (K * 2 + 1) = out n (hubK n f len l K) (l K) (len K) 1 := by
  unfold outs; rw [show (K * 2 + 1) / 2 = K by omega, show (K * 2 + 1) % 2 = 1 by omega]
end Go.Proofs.Ytkdmmomfolhfbaa.Hub
/-
  Plain mathematics of a hub that holds a slot while all owners but one speak (no program in it).
-/
namespace Go.Proofs.Ytkdmmomfolhfbaa.Hub
set_option linter.unusedVariables false
set_option linter.unusedSimpArgs false

open Vote (Ok ok)
/-- What is taken in: the owner's Info, and whatever the bad one says. -/
def holdL (b : Nat) (q : Int) (s : Nat) (j : Nat) : Int := if j = b * 2 + 1 then (if q = 0 then 0 else (b : Int)) else if j = b * 2 then q else if j = s * 2 + 1 then (s : Int) else if j = s * 2 then 2 else 0
theorem holdL_s {b s : Nat} {q : Int} (h : s ≠ b) : holdL b q s (s * 2) = 2 ∧ holdL b q s (s * 2 + 1) = s := by
  unfold holdL
  refine ⟨?_, ?_⟩
  · rw [if_neg (by omega), if_neg (by omega), if_neg (by omega), if_pos rfl]
  · rw [if_neg (by omega), if_neg (by omega), if_pos rfl]
theorem holdL_b {b s : Nat} {q : Int} : holdL b q s (b * 2) = q := by
  unfold holdL; rw [if_neg (by omega), if_pos rfl]
theorem holdL_fits {m b s : Nat} {q : Int} (h : 3 ≤ (m : Int) ∧ (m : Int) ≤ 8) (hq : q = 0 ∨ q = 1 ∨ q = 2) : Gate.Fits m m (holdL b q s) := by
  refine ⟨h, rfl, fun p hp => ?_⟩
  unfold Gate.At holdL
  by_cases eb : p = b
  · subst eb
    rw [if_neg (by omega), if_pos rfl, if_pos rfl]
    by_cases e0 : q = 0
    · exact Or.inl ⟨e0, if_pos e0⟩
    · exact Or.inr ⟨by omega, if_neg e0⟩
  · rw [if_neg (by omega), if_neg (by omega), if_neg (show ¬ p * 2 + 1 = b * 2 + 1 by omega), if_neg (show ¬ p * 2 + 1 = b * 2 by omega)]
    by_cases es : p = s
    · subst es
      rw [if_neg (by omega), if_pos rfl, if_pos rfl]
      exact Or.inr ⟨Or.inr rfl, rfl⟩
    · rw [if_neg (by omega), if_neg (by omega), if_neg (by omega), if_neg (by omega)]
      exact Or.inl ⟨rfl, rfl⟩
/-- It holds, and it has just been held on, or the bad one's slot is now. -/
def Holds (m b : Nat) (g : Nat → Int) : Prop := Ok m g ∧ (g 10 = 2 * m ∨ (g 11 = b ∧ 2 * (m : Int) - 1 ≤ g 10))
theorem Holds.next {m b : Nat} {g : Nat → Int} {q : Int} {s : Nat} (h : Holds m b g) (hs : (s : Int) = (g 11 + 1) % m) (hq : q = 0 ∨ q = 1 ∨ q = 2) :
    Holds m b (step m g (holdL b q s) m) ∧ step m g (holdL b q s) m 11 = s ∧ 1 ≤ step m g (holdL b q s) m 10 ∧
    (s ≠ b → out m g (holdL b q s) m 0 = 2 ∧ out m g (holdL b q s) m 1 = s) ∧ (s = b → out m g (holdL b q s) m 0 ≠ 1) := by
  obtain ⟨hok, hd⟩ := h
  have h38 := hok.1
  have k11 := hok.2.2.2.2.2
  have h2 : 2 ≤ g 10 := by omega
  obtain ⟨e11, e10, hy, hn⟩ := step_held (l := holdL b q s) hok h2
  rw [← hs, Int.toNat_natCast] at hy hn
  rw [← hs] at e11
  have ho := ok_step (l := holdL b q s) (m := m) hok rfl
  by_cases eb : s = b
  · have hg : g 10 = 2 * m := by
      rcases hd with h | ⟨h, -⟩
      · exact h
      · exfalso
        rw [h, eb] at hs
        by_cases e : (b : Int) + 1 = m
        · rw [e, Int.emod_self] at hs; omega
        · rw [Int.emod_eq_of_lt (by omega) (by omega)] at hs; omega
    refine ⟨⟨ho, Or.inr ⟨by rw [e11, eb], by omega⟩⟩, e11, by omega, fun q => absurd eb q, fun _ => ?_⟩
    rw [eb] at hy hn
    rw [eb]
    rw [holdL_b] at hy hn
    by_cases e2 : q = 2
    · obtain ⟨-, h3⟩ := hy e2
      rw [h3 0, Nat.add_zero, holdL_b]; omega
    · rw [hn e2 0]; omega
  · obtain ⟨l0, l1⟩ := holdL_s (q := q) eb
    obtain ⟨h10, h3⟩ := hy l0
    refine ⟨⟨ho, Or.inl h10⟩, e11, by omega, fun _ => ⟨by rw [h3 0, Nat.add_zero, l0], by rw [h3 1, l1]⟩, fun q => absurd q eb⟩
end Go.Proofs.Ytkdmmomfolhfbaa.Hub
/-
  Plain mathematics of what a hub relays, and how far apart Cs are (no program in it).
-/
namespace Go.Proofs.Ytkdmmomfolhfbaa.Hub
set_option linter.unusedVariables false
set_option linter.unusedSimpArgs false

open Vote (Ok ok)
theorem first_at (l : Nat → Int) (K d : Nat) (h : Gate.first l K d < K) : l (Gate.first l K d * 2) = 1 := by
  induction d with
  | zero => unfold Gate.first at h; omega
  | succ d ih =>
    unfold Gate.first at h ⊢
    by_cases e : l ((K - (d + 1)) * 2) = 1
    · rw [if_pos e]; exact e
    · rw [if_neg e] at h ⊢; exact ih h
theorem apart_step {M m : Nat} {g l : Nat → Int} (hok : Ok M g) (hfit : Gate.Fits M m l) :
    (out M g l m 0 = 0 ∧ out M g l m 1 = 0 ∧ step M g l m 9 ≤ g 9 + 1) ∨
    ∃ P : Nat, P < m ∧ P < M ∧ out M g l m 1 = P ∧ l (P * 2) = out M g l m 0 ∧ l (P * 2 + 1) = P ∧
      ((out M g l m 0 = 2 ∧ step M g l m 9 ≤ g 9 + 1) ∨ (out M g l m 0 = 1 ∧ (∀ p, p < P → l (p * 2) ≠ 1) ∧ step M g l m 9 = 0 ∧ 2 * (M : Int) < g 9 + 1)) := by
  obtain ⟨h2, hn2, hm9⟩ := step_age (l := l) (m := m) hok
  have hmm : (m : Int) = (M : Int) := hfit.2.1
  have hk := ok_mid (l := l) hok
  have k11 := hk.2.2.2.2.2
  have hw : Gate.way M (mid M g l) l m = 0 ∨ Gate.way M (mid M g l) l m = 1 ∨ Gate.way M (mid M g l) l m = 2 := by
    unfold Gate.way; split
    · split <;> omega
    · split
      · split <;> omega
      · omega
  rcases hw with hw | hw | hw
  · left
    refine ⟨by unfold out Gate.relayed; rw [if_pos hw], by unfold out Gate.relayed; rw [if_pos hw], ?_⟩
    rw [hn2 (by omega)]; exact hm9
  · right
    have hp : 0 < mid M g l 10 ∧ l ((mid M g l 11).toNat * 2) = 2 := by
      unfold Gate.way at hw
      split at hw
      · split at hw
        · exact ⟨by assumption, by assumption⟩
        · omega
      · split at hw
        · split at hw <;> omega
        · omega
    have hport : Gate.port (mid M g l) l m = (mid M g l 11).toNat := by unfold Gate.port; rw [if_pos hp.1]
    have hPm : (mid M g l 11).toNat < m := by omega
    have hat := hfit.2.2 _ hPm
    have e0 : out M g l m 0 = l ((mid M g l 11).toNat * 2) := by unfold out Gate.relayed; rw [if_neg (by omega), hport, Nat.add_zero]
    have e1 : out M g l m 1 = l ((mid M g l 11).toNat * 2 + 1) := by unfold out Gate.relayed; rw [if_neg (by omega), hport]
    have hid : l ((mid M g l 11).toNat * 2 + 1) = ((mid M g l 11).toNat : Nat) := by
      rcases hat with ⟨h, -⟩ | ⟨-, h⟩
      · omega
      · exact h
    exact ⟨_, hPm, by omega, by rw [e1, hid], e0.symm, hid, Or.inl ⟨by rw [e0]; exact hp.2, by rw [hn2 (by omega)]; exact hm9⟩⟩
  · right
    have hp : ¬ 0 < mid M g l 10 ∧ Gate.first l m m < m := by
      unfold Gate.way at hw
      split at hw
      · split at hw <;> omega
      · refine ⟨by assumption, ?_⟩
        split at hw
        · split at hw
          · assumption
          · omega
        · omega
    have hport : Gate.port (mid M g l) l m = Gate.first l m m := by unfold Gate.port; rw [if_neg hp.1]
    have hat := hfit.2.2 _ hp.2
    have h1 := first_at l m m hp.2
    have e0 : out M g l m 0 = l (Gate.first l m m * 2) := by unfold out Gate.relayed; rw [if_neg (by omega), hport, Nat.add_zero]
    have e1 : out M g l m 1 = l (Gate.first l m m * 2 + 1) := by unfold out Gate.relayed; rw [if_neg (by omega), hport]
    have hid : l (Gate.first l m m * 2 + 1) = (Gate.first l m m : Nat) := by
      rcases hat with ⟨h, -⟩ | ⟨-, h⟩
      · omega
      · exact h
    obtain ⟨s9, m9⟩ := h2 hw
    exact ⟨_, hp.2, by have := hp.2; omega, by rw [e1, hid], e0.symm, hid, Or.inr ⟨by rw [e0]; exact h1, fun p hpp => first_min l m m (Nat.le_refl _) p (by omega) hpp, s9, by omega⟩⟩
end Go.Proofs.Ytkdmmomfolhfbaa.Hub
