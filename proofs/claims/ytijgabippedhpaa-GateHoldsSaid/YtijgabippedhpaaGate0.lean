
import Derived.Test.YtijgabippedhpaaVote1
/-
  Plain mathematics of what a hub lets through (no program in it). A list of frames is its integers: kind and number of the p-th one at 'p * 2' and 'p * 2 + 1'.
-/
namespace Go.Proofs.Ytijgabippedhpaa.Gate
set_option linter.unusedVariables false
set_option linter.unusedSimpArgs false

open Vote (Ok ok votes best bestVotes most)
/-- Does port p's frame fit? -/
def At (l : Nat → Int) (p : Nat) : Prop := (l (p * 2) = 0 ∧ l (p * 2 + 1) = 0) ∨ ((l (p * 2) = 1 ∨ l (p * 2) = 2) ∧ l (p * 2 + 1) = p)
instance (l : Nat → Int) (p : Nat) : Decidable (At l p) := by unfold At; infer_instance
def Fits (n : Int) (m : Nat) (l : Nat → Int) : Prop := (3 ≤ n ∧ n ≤ 8) ∧ (m : Int) = n ∧ ∀ p, p < m → At l p
instance (n : Int) (m : Nat) (l : Nat → Int) : Decidable (Fits n m l) := by unfold Fits; infer_instance
def fits (n : Int) (m : Nat) (l : Nat → Int) : Bool := decide (Fits n m l)
theorem fits_iff {n : Int} {m : Nat} {l : Nat → Int} : fits n m l = true ↔ Fits n m l := decide_eq_true_iff
theorem fits_no {n : Int} {m : Nat} {l : Nat → Int} (h : ¬ Fits n m l) : fits n m l = false := decide_eq_false h
def wrong (n : Int) (f : Nat → Int) (m : Nat) (l : Nat → Int) : Int := if ok n f = true then (if fits n m l = true then 0 else 2) else 1
theorem wrong_zero {n : Int} {f : Nat → Int} {m : Nat} {l : Nat → Int} (h : Ok n f) (h2 : Fits n m l) : wrong n f m l = 0 := by
  unfold wrong; rw [if_pos (Vote.ok_iff.2 h), if_pos (fits_iff.2 h2)]
theorem wrong_of {n : Int} {f : Nat → Int} {m : Nat} {l : Nat → Int} (h : wrong n f m l = 0) : Ok n f ∧ Fits n m l := by
  unfold wrong at h
  split at h
  · rename_i h1
    split at h
    · rename_i h2; exact ⟨Vote.ok_iff.1 h1, fits_iff.1 h2⟩
    · omega
  · omega
/-- What was said is noted. -/
def note (n : Int) (f l : Nat → Int) (j : Nat) : Int := if (j : Int) < n ∧ l (j * 2) = 2 then 0 else f j
/-- Which slot it holds. -/
def settle (n : Int) (f : Nat → Int) (j : Nat) : Int :=
  if ok n f = true then
    (if 0 < f 10 then (if 2 ≤ votes n f (f 11) then (if j = 10 then 2 * n else f j) else f j)
     else if 2 ≤ bestVotes n f then (if j = 10 then 2 * n else if j = 11 then (best n f : Nat) else f j) else f j)
  else 0
/-- The least port below 'K' that took in a Cs ('K' if none did). -/
def first (l : Nat → Int) (K : Nat) : Nat → Nat
  | 0 => K
  | d + 1 => if l ((K - (d + 1)) * 2) = 1 then K - (d + 1) else first l K d
/-- Which way a relay goes: its owner's Info (1), a Cs (2), nothing (0). -/
def way (n : Int) (f l : Nat → Int) (m : Nat) : Nat :=
  if 0 < f 10 then (if l ((f 11).toNat * 2) = 2 then 1 else 0) else if 2 * n < f 9 then (if first l m m < m then 2 else 0) else 0
def port (f l : Nat → Int) (m : Nat) : Nat := if 0 < f 10 then (f 11).toNat else first l m m
def relay (n : Int) (f l : Nat → Int) (m j : Nat) : Int :=
  if way n f l m = 1 then (if j = 10 then 2 * n else f j)
  else if way n f l m = 2 then (if j < 8 then most n j else if j = 8 then (port f l m : Nat) else if j = 9 then 0 else f j)
  else f j
def relayed (n : Int) (f l : Nat → Int) (m i : Nat) : Int := if way n f l m = 0 then 0 else l (port f l m * 2 + i)
theorem first_le (l : Nat → Int) (K d : Nat) (h : d ≤ K) : first l K d ≤ K := by
  induction d with
  | zero => exact Nat.le_refl _
  | succ d ih =>
    unfold first
    split
    · omega
    · exact ih (by omega)
theorem first_cs (l : Nat → Int) (K d : Nat) (h : d ≤ K) (hf : first l K d < K) : l (first l K d * 2) = 1 := by
  induction d with
  | zero => unfold first at hf; omega
  | succ d ih =>
    unfold first at hf ⊢
    split
    · assumption
    · rename_i h2; rw [if_neg h2] at hf; exact ih (by omega) hf
theorem votes_like {n : Int} {f g : Nat → Int} (hf : Ok n f) (hg : Ok n g) (h : ∀ j, j < 10 → f j = g j) (v : Int) : votes n f v = votes n g v := by
  rw [Vote.votes_ok hf, Vote.votes_ok hg]
  have h3 := hf.1
  have hv : ∀ K : Nat, (K : Int) ≤ n → Vote.cnt n f v K = Vote.cnt n g v K := by
    intro K
    induction K with
    | zero => intro _; rfl
    | succ K ih =>
      intro hK
      unfold Vote.cnt
      rw [ih (by omega)]
      have e : Vote.vt n f v K = Vote.vt n g v K := by
        unfold Vote.vt Vote.said Vote.held
        rw [h K (by omega), h 8 (by omega), h 9 (by omega)]
      rw [e]
  exact hv _ (by omega)
theorem bestK_like {n : Int} {f g : Nat → Int} (hf : Ok n f) (hg : Ok n g) (h : ∀ j, j < 10 → f j = g j) (K : Nat) : Vote.bestK n f K = Vote.bestK n g K := by
  induction K with
  | zero => rfl
  | succ K ih => unfold Vote.bestK; rw [ih, votes_like hf hg h, votes_like hf hg h]
theorem best_like {n : Int} {f g : Nat → Int} (hf : Ok n f) (hg : Ok n g) (h : ∀ j, j < 10 → f j = g j) : best n f = best n g ∧ bestVotes n f = bestVotes n g := by
  unfold bestVotes best
  rw [if_pos (Vote.ok_iff.2 hf), if_pos (Vote.ok_iff.2 hg), if_pos (Vote.ok_iff.2 hf), if_pos (Vote.ok_iff.2 hg), bestK_like hf hg h, votes_like hf hg h]
  exact ⟨rfl, rfl⟩
theorem best_lt {n : Int} {f : Nat → Int} (h : Ok n f) : (best n f : Int) < n := by
  unfold best
  rw [if_pos (Vote.ok_iff.2 h)]
  have := Vote.bestK_lt n f n.toNat (by have := h.1; omega)
  have := h.1
  omega
theorem votes_best {n : Int} {f : Nat → Int} (h : Ok n f) : votes n f (best n f : Nat) = bestVotes n f := by
  unfold bestVotes; rw [if_pos (Vote.ok_iff.2 h)]
/-- Numbers 10 and 11 may be anything in their bounds. -/
theorem ok_set {n : Int} {f g : Nat → Int} (h : Ok n f) (e : ∀ j, j < 10 → g j = f j) (h10 : 0 ≤ g 10 ∧ g 10 ≤ 2 * n) (h11 : 0 ≤ g 11 ∧ g 11 ≤ n - 1) : Ok n g := by
  obtain ⟨h38, hA, h8, h9, -, -⟩ := h
  exact ⟨h38, fun j hj => by rw [e j (by omega)]; exact hA j hj, by rw [e 8 (by omega)]; exact h8, by rw [e 9 (by omega)]; exact h9, h10, h11⟩
theorem settle_low {n : Int} {f : Nat → Int} (h : Ok n f) (j : Nat) (hj : j < 10) : settle n f j = f j := by
  unfold settle
  rw [if_pos (Vote.ok_iff.2 h)]
  have e1 : ¬ j = 10 := by omega
  have e2 : ¬ j = 11 := by omega
  simp only [if_neg e1, if_neg e2]
  by_cases q : 0 < f 10
  · rw [if_pos q]; split <;> rfl
  · rw [if_neg q]; split <;> rfl
theorem settle_10 {n : Int} {f : Nat → Int} (h : Ok n f) : settle n f 10 = (if 0 < f 10 then (if 2 ≤ votes n f (f 11) then 2 * n else f 10) else if 2 ≤ bestVotes n f then 2 * n else f 10) := by
  unfold settle; rw [if_pos (Vote.ok_iff.2 h)]; rfl
theorem settle_11 {n : Int} {f : Nat → Int} (h : Ok n f) : settle n f 11 = (if 0 < f 10 then f 11 else if 2 ≤ bestVotes n f then (best n f : Nat) else f 11) := by
  unfold settle; rw [if_pos (Vote.ok_iff.2 h)]
  (repeat split) <;> first | rfl | omega
theorem ok_settle {n : Int} {f : Nat → Int} (h : Ok n f) : Ok n (settle n f) := by
  have hh := h
  have hb := best_lt h
  obtain ⟨h38, hA, h8, h9, h10, h11⟩ := hh
  refine ok_set h (fun j hj => settle_low h j hj) ?_ ?_
  · rw [settle_10 h]; (repeat split) <;> omega
  · rw [settle_11 h]; (repeat split) <;> omega
theorem settle_again {n : Int} {f : Nat → Int} (h : Ok n f) (j : Nat) (hj : j < 12) : settle n (settle n f) j = settle n f j := by
  have hs := ok_settle h
  have hl : ∀ j, j < 10 → settle n f j = f j := fun j hj => settle_low h j hj
  have hv : ∀ v, votes n (settle n f) v = votes n f v := fun v => votes_like hs h hl v
  obtain ⟨hb1, hb2⟩ := best_like hs h hl
  have h3 := h.1
  have h10 := h.2.2.2.2.1
  by_cases hj2 : j < 10
  · rw [settle_low hs j hj2]
  · have h2 : j = 10 ∨ j = 11 := by omega
    have e10 := settle_10 h
    have e11 := settle_11 h
    have hvb := votes_best h
    rcases h2 with rfl | rfl
    · rw [settle_10 hs, hv, hb2]
      by_cases q1 : 0 < f 10
      · rw [if_pos q1] at e10 e11
        rw [e11]
        by_cases q2 : 2 ≤ votes n f (f 11)
        · rw [if_pos q2] at e10 ⊢
          rw [e10, if_pos (by omega)]
        · rw [if_neg q2] at e10 ⊢
          rw [e10, if_pos q1]
      · rw [if_neg q1] at e10 e11
        by_cases q2 : 2 ≤ bestVotes n f
        · rw [if_pos q2] at e10 e11
          rw [e10, e11, if_pos (by omega), hvb, if_pos q2]
        · rw [if_neg q2] at e10
          rw [e10, if_neg q1, if_neg q2]
    · rw [settle_11 hs, hb1, hb2]
      by_cases q1 : 0 < f 10
      · have : 0 < settle n f 10 := by rw [e10, if_pos q1]; split <;> omega
        rw [if_pos this]
      · rw [if_neg q1] at e10 e11
        by_cases q2 : 2 ≤ bestVotes n f
        · rw [if_pos q2] at e10
          rw [if_pos (by omega)]
        · rw [if_neg q2] at e10 e11
          rw [e10, if_neg q1, if_neg q2]
theorem way_lt {n : Int} {f l : Nat → Int} {m : Nat} (h : Ok n f) (hm : (m : Int) = n) (hw : way n f l m ≠ 0) : port f l m < m := by
  have h11 := h.2.2.2.2.2
  unfold way at hw
  unfold port
  by_cases q : 0 < f 10
  · rw [if_pos q]; omega
  · rw [if_neg q] at hw ⊢
    split at hw
    · split at hw
      · assumption
      · exact absurd rfl hw
    · exact absurd rfl hw
theorem ok_relay {n : Int} {f l : Nat → Int} {m : Nat} (h : Ok n f) (hm : (m : Int) = n) : Ok n (relay n f l m) := by
  have hh := h
  obtain ⟨h38, hA, h8, h9, h10, h11⟩ := hh
  unfold relay
  by_cases w1 : way n f l m = 1
  · simp only [w1, if_true]
    exact ok_set h (fun j hj => if_neg (by omega)) ⟨by rw [if_pos rfl]; omega, by rw [if_pos rfl]; omega⟩ ⟨by rw [if_neg (by omega)]; omega, by rw [if_neg (by omega)]; omega⟩
  · simp only [if_neg w1]
    by_cases w2 : way n f l m = 2
    · simp only [if_pos w2]
      have hp := way_lt (l := l) h hm (by omega)
      refine ⟨h38, fun j hj => ?_, ?_, ?_, h10, h11⟩
      · show 0 ≤ (if j < 8 then most n j else _) ∧ (if j < 8 then most n j else _) ≤ most n j
        rw [if_pos hj]
        have := Vote.most_in h38 j
        omega
      · simp only [show ¬ (8 : Nat) < 8 by decide, if_false, if_true]; omega
      · simp only [show ¬ (9 : Nat) < 8 by decide, show ¬ (9 : Nat) = 8 by decide, if_false, if_true]; omega
    · simp only [if_neg w2]; exact h
theorem note_votes {n : Int} {f l : Nat → Int} {p : Nat} (h : Ok n (note n f l)) (hp : (p : Int) < n) (hl : l (p * 2) = 2) : 1 ≤ votes n (note n f l) (p : Nat) := by
  have h38 := h.1
  rw [Vote.votes_ok h]
  have hs : Vote.vt n (note n f l) (p : Nat) p = true := by
    unfold Vote.vt Vote.said
    rw [show note n f l p = 0 from if_pos ⟨hp, hl⟩]
    have e : ((p : Int) + 0) % n = p := by rw [Int.add_zero]; exact Int.emod_eq_of_lt (by omega) hp
    rw [e]
    simp; omega
  have key : ∀ K : Nat, p < K → 1 ≤ Vote.cnt n (note n f l) (p : Nat) K := by
    intro K
    induction K with
    | zero => intro h; omega
    | succ K ih =>
      intro h
      unfold Vote.cnt
      by_cases e : p = K
      · subst e; rw [if_pos hs]; omega
      · have := ih (by omega); omega
  exact key _ (by omega)
theorem ok_note {n : Int} {f l : Nat → Int} (h : Ok n f) : Ok n (note n f l) := by
  have hh := h
  obtain ⟨h38, hA, h8, h9, h10, h11⟩ := hh
  have e : ∀ j : Nat, 8 ≤ j → note n f l j = f j := fun j hj => if_neg (by omega)
  refine ⟨h38, fun j hj => ?_, by rw [e 8 (by omega)]; exact h8, by rw [e 9 (by omega)]; exact h9, by rw [e 10 (by omega)]; exact h10, by rw [e 11 (by omega)]; exact h11⟩
  have := hA j hj
  unfold note
  split <;> omega
end Go.Proofs.Ytijgabippedhpaa.Gate
