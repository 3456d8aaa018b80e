
import Derived.Test.YtijgabippedhpaaVote0
/-
  Plain mathematics of votes (no program in it): what is made right may be, and so a tick later; a port votes once, the hub's port once more; a vote goes on with the slots.
-/
namespace Go.Proofs.Ytijgabippedhpaa.Vote
set_option linter.unusedVariables false
set_option linter.unusedSimpArgs false

theorem clamp_in {c m : Int} (h : 0 ≤ m) : 0 ≤ Tally.clamp c 0 m ∧ Tally.clamp c 0 m ≤ m := by
  unfold Tally.clamp; split
  · omega
  · split <;> omega
theorem most_in {n : Int} (h : 3 ≤ n ∧ n ≤ 8) (j : Nat) : 0 ≤ most n j ∧ most n j ≤ n := by unfold most; split <;> omega
theorem ok_clean {n : Int} (f : Nat → Int) (hr : Conf.right n = true) : Ok n (clean n f) := by
  have h := Conf.right_spec.1 hr
  refine ⟨h, fun j hj => ?_, ?_, ?_, ?_, ?_⟩
  all_goals
    unfold clean
    rw [if_pos hr]
  · rw [if_pos hj]; exact clamp_in (most_in h j).1
  · have h1 := Int.emod_nonneg (f 8) (show n ≠ 0 by omega)
    have h2 := Int.emod_lt_of_pos (f 8) (show 0 < n by omega)
    simp only [show ¬ (8 : Nat) < 8 by decide, show ¬ (8 : Nat) = 9 by decide, show ¬ (8 : Nat) = 10 by decide, if_false]
    omega
  · simp only [show ¬ (9 : Nat) < 8 by decide, if_true, if_false]; exact clamp_in (by omega)
  · simp only [show ¬ (10 : Nat) < 8 by decide, show ¬ (10 : Nat) = 9 by decide, if_true, if_false]; exact clamp_in (by omega)
  · have h1 := Int.emod_nonneg (f 11) (show n ≠ 0 by omega)
    have h2 := Int.emod_lt_of_pos (f 11) (show 0 < n by omega)
    simp only [show ¬ (11 : Nat) < 8 by decide, show ¬ (11 : Nat) = 9 by decide, show ¬ (11 : Nat) = 10 by decide, if_false]
    omega
theorem up_in {c m : Int} (h : 0 ≤ c ∧ c ≤ m) : 0 ≤ Tally.up c m ∧ Tally.up c m ≤ m := by
  unfold Tally.up; split <;> omega
theorem up_min {c m : Int} (h : 0 ≤ c ∧ c ≤ m) : Tally.up c m = min (c + 1) m := by
  unfold Tally.up; split <;> omega
theorem down_max {c : Int} : Tally.down c = max (c - 1) 0 := by
  unfold Tally.down; split <;> omega
theorem tick_age {n : Int} {f : Nat → Int} (h : Ok n f) {j : Nat} (hj : j < 8) : tick n f j = if (j : Int) < n then Tally.up (f j) n else f j := by
  unfold tick; rw [if_pos (ok_iff.2 h), if_pos hj]
theorem tick_8 {n : Int} {f : Nat → Int} (h : Ok n f) : tick n f 8 = f 8 := by unfold tick; rw [if_pos (ok_iff.2 h)]; rfl
theorem tick_9 {n : Int} {f : Nat → Int} (h : Ok n f) : tick n f 9 = Tally.up (f 9) (2 * n + 1) := by unfold tick; rw [if_pos (ok_iff.2 h)]; rfl
theorem tick_10 {n : Int} {f : Nat → Int} (h : Ok n f) : tick n f 10 = Tally.down (f 10) := by unfold tick; rw [if_pos (ok_iff.2 h)]; rfl
theorem tick_11 {n : Int} {f : Nat → Int} (h : Ok n f) : tick n f 11 = (f 11 + 1) % n := by unfold tick; rw [if_pos (ok_iff.2 h)]; rfl
theorem ok_tick {n : Int} {f : Nat → Int} (h : Ok n f) : Ok n (tick n f) := by
  have hh := h
  obtain ⟨h38, hA, h8, h9, h10, h11⟩ := h
  refine ⟨h38, fun j hj => ?_, by rw [tick_8 hh]; exact h8, by rw [tick_9 hh]; exact up_in h9, ?_, ?_⟩
  · rw [tick_age hh hj]
    have := hA j hj
    by_cases hp : (j : Int) < n
    · rw [if_pos hp]
      rw [most_yes hp] at this ⊢
      exact up_in this
    · rw [if_neg hp]; exact this
  · rw [tick_10 hh, down_max]; omega
  · rw [tick_11 hh]
    have h1 := Int.emod_nonneg (f 11 + 1) (show n ≠ 0 by omega)
    have h2 := Int.emod_lt_of_pos (f 11 + 1) (show 0 < n by omega)
    omega
theorem votes_ok {n : Int} {f : Nat → Int} (h : Ok n f) (v : Int) : votes n f v = cnt n f v n.toNat := by unfold votes; rw [if_pos (ok_iff.2 h)]
/-- A vote that stays was for the slot before. -/
theorem mod_next {n x v : Int} (hn : 0 < n) (hv : 0 ≤ v ∧ v < n) (h : (x + 1) % n = (v + 1) % n) : x % n = v := by
  have h1 : (x + 1 - (v + 1)) % n = 0 := Int.emod_eq_emod_iff_emod_sub_eq_zero.1 h
  have h2 : (x - v) % n = 0 := by rw [show x - v = x + 1 - (v + 1) by omega]; exact h1
  have h3 := Int.emod_eq_emod_iff_emod_sub_eq_zero.2 h2
  rw [h3, Int.emod_eq_of_lt hv.1 hv.2]
theorem vt_later {n : Int} {f : Nat → Int} (h : Ok n f) {v : Int} (hv : 0 ≤ v ∧ v < n) {p : Nat} (hp : (p : Int) < n) (hh : vt n (tick n f) ((v + 1) % n) p = true) : vt n f v p = true := by
  have hk := h
  obtain ⟨h38, hA, h8, h9, -, -⟩ := hk
  have hap := hA p (by omega)
  rw [most_yes hp] at hap
  have e0 : tick n f p = Tally.up (f p) n := by rw [tick_age h (by omega), if_pos hp]
  unfold vt said held at hh ⊢
  rw [e0, tick_8 h, tick_9 h] at hh
  simp only [Bool.or_eq_true, Bool.and_eq_true, decide_eq_true_eq, beq_iff_eq] at hh ⊢
  rw [up_min hap, up_min h9] at hh
  rcases hh with ⟨q1, q2⟩ | ⟨⟨q1, q2⟩, q3⟩
  · left
    have e : min (f p + 1) n = f p + 1 := by omega
    rw [e] at q2
    exact ⟨by omega, mod_next (by omega) hv (by rw [← q2]; congr 1; omega)⟩
  · right
    have e : min (f 9 + 1) (2 * n + 1) = f 9 + 1 := by omega
    rw [e] at q3
    exact ⟨⟨q1, by omega⟩, mod_next (by omega) hv (by rw [← q3]; congr 1; omega)⟩
theorem cnt_later {n : Int} {f : Nat → Int} (h : Ok n f) {v : Int} (hv : 0 ≤ v ∧ v < n) (K : Nat) (hK : (K : Int) ≤ n) : cnt n (tick n f) ((v + 1) % n) K ≤ cnt n f v K := by
  induction K with
  | zero => exact Nat.le_refl _
  | succ K ih =>
    have := ih (by omega)
    unfold cnt
    by_cases q : vt n (tick n f) ((v + 1) % n) K = true
    · rw [if_pos q, if_pos (vt_later h hv (by omega) q)]; omega
    · rw [if_neg q]; split <;> omega
theorem votes_later {n : Int} {f : Nat → Int} (h : Ok n f) {v : Int} (hv : 0 ≤ v ∧ v < n) : votes n (tick n f) ((v + 1) % n) ≤ votes n f v := by
  rw [votes_ok (ok_tick h), votes_ok h]
  exact cnt_later h hv _ (by have := h.1; omega)
/-- All votes for the first 'M' slots. -/
def sum (n : Int) (f : Nat → Int) : Nat → Nat
  | 0 => 0
  | M + 1 => sum n f M + votes n f (M : Nat)
def b2n (b : Bool) : Nat := if b = true then 1 else 0
/-- How many slots of the first 'M' ones are the slot 'x'? -/
def one (x : Int) : Nat → Nat
  | 0 => 0
  | M + 1 => one x M + b2n (x == (M : Int))
theorem one_le (x : Int) (M : Nat) : one x M ≤ 1 ∧ ((M : Int) ≤ x → one x M = 0) := by
  induction M with
  | zero => exact ⟨Nat.zero_le _, fun _ => rfl⟩
  | succ M ih =>
    unfold one b2n
    by_cases e : x = (M : Int)
    · have h0 := ih.2 (by omega)
      rw [if_pos (by simp [e]), h0]
      exact ⟨by omega, fun h => by omega⟩
    · rw [if_neg (by simp [e])]
      exact ⟨by omega, fun h => by rw [ih.2 (by omega)]⟩
/-- All that the first 'K' ports say for the first 'M' slots. -/
def all (n : Int) (f : Nat → Int) (K : Nat) : Nat → Nat
  | 0 => 0
  | M + 1 => all n f K M + cnt n f (M : Nat) K
theorem all_zero (n : Int) (f : Nat → Int) (M : Nat) : all n f 0 M = 0 := by
  induction M with
  | zero => rfl
  | succ M ih => unfold all; rw [ih]; rfl
/-- The slot for which the hub's port votes. -/
theorem vt_two (n : Int) (f : Nat → Int) (v : Int) (p : Nat) : (if vt n f v p = true then 1 else 0) ≤ b2n (((p : Int) + f p) % n == v) + (if (p : Int) = f 8 then b2n ((f 8 + f 9) % n == v) else 0) := by
  unfold vt said held b2n
  by_cases e1 : ((p : Int) + f p) % n = v
  · rw [if_pos (show (((p : Int) + f p) % n == v) = true by simp [e1])]
    split <;> omega
  · by_cases e2 : (p : Int) = f 8
    · rw [if_pos e2, ← e2]
      by_cases e3 : ((p : Int) + f 9) % n = v
      · rw [if_pos (show (((p : Int) + f 9) % n == v) = true by simp [e3])]
        split <;> omega
      · simp [e1, e3]
    · simp [e1, e2]
theorem all_next (n : Int) (f : Nat → Int) (K M : Nat) : all n f (K + 1) M ≤ all n f K M + one (((K : Int) + f K) % n) M + (if (K : Int) = f 8 then one ((f 8 + f 9) % n) M else 0) := by
  induction M with
  | zero => exact Nat.zero_le _
  | succ M ih =>
    have h := vt_two n f (M : Int) K
    unfold all one
    rw [show cnt n f (M : Nat) (K + 1) = cnt n f (M : Nat) K + (if vt n f (M : Nat) K = true then 1 else 0) from rfl]
    by_cases e : (K : Int) = f 8
    · rw [if_pos e] at ih h ⊢; omega
    · rw [if_neg e] at ih h ⊢; omega
theorem all_le (n : Int) (f : Nat → Int) (K M : Nat) : all n f K M ≤ K + 1 ∧ ((K : Int) ≤ f 8 → all n f K M ≤ K) := by
  induction K with
  | zero => rw [all_zero]; exact ⟨by omega, fun _ => by omega⟩
  | succ K ih =>
    have h := all_next n f K M
    have h1 := (one_le (((K : Int) + f K) % n) M).1
    have h2 := (one_le ((f 8 + f 9) % n) M).1
    by_cases e : (K : Int) = f 8
    · rw [if_pos e] at h
      have := ih.2 (by omega)
      exact ⟨by omega, fun q => by omega⟩
    · rw [if_neg e] at h
      exact ⟨by omega, fun q => by have := ih.2 (by omega); omega⟩
theorem sum_all {n : Int} {f : Nat → Int} (h : Ok n f) (M : Nat) : sum n f M = all n f n.toNat M := by
  induction M with
  | zero => rfl
  | succ M ih => unfold sum all; rw [ih, votes_ok h]
theorem sum_le {m : Nat} {f : Nat → Int} (h : Ok m f) (M : Nat) : sum m f M ≤ m + 1 := by
  rw [sum_all h]
  exact (all_le _ _ _ _).1
theorem votes_sum (n : Int) (f : Nat → Int) (M v : Nat) (h : v < M) : votes n f (v : Nat) ≤ sum n f M := by
  induction M with
  | zero => omega
  | succ M ih =>
    unfold sum
    by_cases e : v = M
    · subst e; omega
    · have := ih (by omega); omega
theorem bestK_lt (n : Int) (f : Nat → Int) (K : Nat) (h : 0 < K) : bestK n f K < K := by
  induction K with
  | zero => omega
  | succ K ih =>
    unfold bestK
    split
    · omega
    · have := bestK_le n f K; omega
theorem best_facts {m : Nat} {f : Nat → Int} (h : Ok m f) : bestVotes m f ≤ m ∧ bestVotes m f ≤ sum m f m := by
  have h3 := h.1
  unfold bestVotes best
  rw [if_pos (ok_iff.2 h), if_pos (ok_iff.2 h)]
  refine ⟨?_, votes_sum _ _ _ _ (bestK_lt _ _ _ (by omega))⟩
  rw [votes_ok h]
  exact cnt_le _ _ _ _
/-- 'K' ticks behind 'f'. -/
structure Later (n : Int) (f : Nat → Int) (K : Nat) (g : Nat → Int) : Prop where
  ok : Ok n g
  ages : ∀ j : Nat, (j : Int) < n → g j = min (f j + K) n
  age : g 9 = min (f 9 + K) (2 * n + 1)
  hold : g 10 = max (f 10 - K) 0
  pos : g 11 = (f 11 + K) % n
theorem Later.zero {n : Int} {f : Nat → Int} (h : Ok n f) : Later n f 0 f := by
  have hh := h
  obtain ⟨h38, hA, h8, h9, h10, h11⟩ := hh
  refine ⟨h, fun j hj => ?_, by omega, by omega, ?_⟩
  · have := hA j (by omega)
    rw [most_yes hj] at this
    omega
  · rw [Int.emod_eq_of_lt (by omega) (by omega)]; omega
theorem Later.next {n : Int} {f g : Nat → Int} {K : Nat} (h : Later n f K g) : Later n f (K + 1) (tick n g) := by
  obtain ⟨h38, hA, h8, h9, h10, h11⟩ := h.ok
  refine ⟨ok_tick h.ok, fun j hj => ?_, ?_, ?_, ?_⟩
  · have := hA j (by omega)
    rw [most_yes hj] at this
    rw [tick_age h.ok (by omega), if_pos hj, up_min this, h.ages j hj]
    omega
  · rw [tick_9 h.ok, up_min h9, h.age]; omega
  · rw [tick_10 h.ok, down_max, h.hold]; omega
  · rw [tick_11 h.ok, h.pos, Int.emod_add_emod]; congr 1; omega
theorem Later.ends {m : Nat} {f g : Nat → Int} (hf : Ok m f) (h : Later m f (2 * m) g) : bestVotes m g = 0 ∧ g 10 = 0 ∧ g 11 = f 11 := by
  obtain ⟨h38, hA, h8, h9, h10, h11⟩ := hf
  refine ⟨?_, ?_, ?_⟩
  · have hv : ∀ v K, K ≤ m → cnt m g v K = 0 := by
      intro v K
      induction K with
      | zero => intro _; rfl
      | succ K ih =>
        intro hK
        unfold cnt
        rw [ih (by omega), if_neg]
        have e1 := h.ages K (by omega)
        have e2 := h.age
        have := hA K (by omega)
        unfold vt said held
        simp only [Bool.or_eq_true, Bool.and_eq_true, decide_eq_true_eq, beq_iff_eq]
        rintro (⟨q1, -⟩ | ⟨⟨-, q2⟩, -⟩) <;> omega
    unfold bestVotes
    rw [if_pos (ok_iff.2 h.ok), votes_ok h.ok]
    exact hv _ _ (by omega)
  · rw [h.hold]; omega
  · rw [h.pos, show f 11 + ((2 * m : Nat) : Int) = f 11 + (m : Int) * 2 by omega, Int.add_mul_emod_self_left]
    exact Int.emod_eq_of_lt (by omega) (by omega)
end Go.Proofs.Ytijgabippedhpaa.Vote
