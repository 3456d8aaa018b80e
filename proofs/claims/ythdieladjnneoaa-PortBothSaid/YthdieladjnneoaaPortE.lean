
import Derived.Test.YthdieladjnneoaaRows
import Derived.Test.YthdieladjnneoaaPortD
import Derived.Test.YthdieladjnneoaaPort1
namespace Go.Proofs.Ythdieladjnneoaa
set_option linter.unusedVariables false
set_option linter.unusedSimpArgs false
open Go.ChangeShapes Go.WideShapes Go.RowKit

/-- What two take in together. -/
def bothF (f g : Nat → Int) (j : Nat) : Int := if f (j / 2 * 2) = 0 ∧ f (j / 2 * 2 + 1) = 0 then g j else f j
def bothK (f g : Nat → Int) (K j : Nat) : Int := if j < 2 * K then bothF f g j else f j
theorem bothK_yes {f g : Nat → Int} {K : Nat} (h : f (K * 2) = 0 ∧ f (K * 2 + 1) = 0) (j : Nat) : bothK f g (K + 1) j = if j = K * 2 + 1 then g (K * 2 + 1) else if j = K * 2 then g (K * 2) else bothK f g K j := by
  unfold bothK
  by_cases e1 : j = K * 2 + 1
  · subst e1
    rw [if_pos (by omega), if_pos rfl]
    unfold bothF
    rw [show (K * 2 + 1) / 2 * 2 = K * 2 by omega, if_pos h]
  · rw [if_neg e1]
    by_cases e0 : j = K * 2
    · subst e0
      rw [if_pos (by omega), if_pos rfl]
      unfold bothF
      rw [show K * 2 / 2 * 2 = K * 2 by omega, if_pos h]
    · rw [if_neg e0]
      by_cases q : j < 2 * K
      · rw [if_pos q, if_pos (by omega)]
      · rw [if_neg q, if_neg (by omega)]
theorem bothK_no {f g : Nat → Int} {K : Nat} (h : ¬ (f (K * 2) = 0 ∧ f (K * 2 + 1) = 0)) : bothK f g (K + 1) = bothK f g K := by
  funext j
  unfold bothK
  by_cases q : j < 2 * K
  · rw [if_pos q, if_pos (by omega)]
  · rw [if_neg q]
    by_cases q2 : j < 2 * (K + 1)
    · rw [if_pos q2]
      unfold bothF
      rw [show j / 2 * 2 = K * 2 by omega, if_neg h]
    · rw [if_neg q2]
set_option maxHeartbeats 1000000 in
theorem refBoth_at (n b o cap b' o' cap' : Nat) (f g : Nat → Int) (w : World) (hn : 0 < n ∧ n ≤ 1000) (hlt : b < w.heap.size) (hlt' : b' < w.heap.size)
    (hf : ∀ j, j < 2 * n → w.cell? ⟨b, o + j, none⟩ = some (.int .i64 (f j))) (hg : ∀ j, j < 2 * n → w.cell? ⟨b', o' + j, none⟩ = some (.int .i64 (g j))) :
    Calls Try.prog 11 #[.slice (some ⟨b, o, none⟩) n cap, .slice (some ⟨b', o', none⟩) n cap'] w fun e w' => Gives n (bothK f g n) 0 e w' ∧ Below w.heap.size w w' := by
  have HF := Lib.hid hf
  have HG := Lib.hid hg
  clear hf hg
  have hinfo : (Try.prog.info? 35).map (fun i => (i.zero, i.size, i.bytes)) = some (some (.agg #[.int .i64 0, .int .i64 0]), 2, 16) := by kernel_rfl
  obtain ⟨i, hi, hzz⟩ := Option.map_eq_some_iff.1 hinfo
  simp only [Prod.mk.injEq] at hzz
  obtain ⟨hz, hs, hbytes⟩ := hzz
  have HII := Lib.hid (And.intro hi (And.intro hz (And.intro hs hbytes)))
  clear hinfo
  have hO : (w.alloc (.cells #[] 35)).ownsRow w.heap.size 35 2 (.slice (some ⟨w.heap.size, 0, none⟩) 0 0) 0 [] :=
    ⟨rfl, Or.inr ⟨w.heap.size, 0, #[], rfl, Nat.le_refl _, heap_alloc_new w _, Nat.le_refl _, Nat.zero_le _, rfl, rfl⟩⟩
  have hb0 : Below w.heap.size w (w.alloc (.cells #[] 35)) := (Below.refl _ w).alloc (Nat.le_refl _) _
  have hnews : ∀ j u, (listOf n f)[j]? = some u → (w.alloc (.cells #[] 35)).cell? ((⟨b, o, none⟩ : Addr).add j) = some u := listOf_cells (fun j hj => by
    rw [hb0.cell (p := ⟨b, o + j, none⟩) hlt]; exact HF.out j hj)
  have hml : n ≤ maxLen := by unfold maxLen; omega
  have HO := Lib.hid hO
  have HN := Lib.hid hnews
  clear hO hnews
  go_enter Try.func11, Try.ntmps11
  go_wp2_with (at_builtin; refine wpList_append_lies _ rfl _ _ _ rfl w.heap.size 35 i (.agg #[.int .i64 0, .int .i64 0]) 2 16 Try.underlying23 HII.out.1 HII.out.2.1 HII.out.2.2.1 HII.out.2.2.2 rfl (by omega) _ 0 [] rfl HO.out ⟨b, o, none⟩ n cap (listOf n f) rfl (listOf_len n f) HN.out (listOf_one n f) hn.1 (by omega) (by omega) (by simp) (w.heap.size + 1) (by simp) ?_; intro gg gcap w1 hown hgrow hat hltg)
  rw [Nat.zero_add, List.nil_append] at hown
  obtain ⟨hI0, hge⟩ := Ints.of_owns (f := f) hown hn.1 (fun j hj => listOf_at n f j hj)
  have hb1 : Below w.heap.size w w1 := hb0.grown hgrow hb0.size (by intro k hk; exact Nat.le_of_eq (Option.some.inj hk))
  rw [show f = bothK f g 0 from funext fun j => by unfold bothK; rw [if_neg (by omega)]] at hI0
  have HI := Lib.hid hI0
  have HB1 := Lib.hid hb1
  clear hown hgrow hat hI0 hb1 HO HN
  go_loopw [7] (fun k wr => ∃ K : Nat, K ≤ n ∧ k = .int .i64 K ∧ Ints wr gg (2 * n) (bothK f g K) ∧ Below w.heap.size w wr) (fun k _ => n - (intOf k).toNat)
  case atStart => exact ⟨0, by omega, rfl, HI.out, HB1.out⟩
  case round =>
    clear HI HB1 hb0
    obtain ⟨K, hK, rfl, hI, hb⟩ := hrel
    have HB := Lib.hid hb
    have HI := Lib.hid hI
    by_cases hlt2 : K < n
    · have h1 : (K : Int) < n := by omega
      have h0 : (0 : Int) ≤ K := by omega
      obtain ⟨c0, c1⟩ := two_cells HF.out hb hlt2
      obtain ⟨d0, d1⟩ := two_cells HG.out hb hlt2
      obtain ⟨q0, f0⟩ := hI.2 (K * 2) (by omega)
      obtain ⟨q1, f1⟩ := hI.2 (K * 2 + 1) (by omega)
      have hzg := hI.1
      clear hb hI
      by_cases ht : f (K * 2) = 0 ∧ f (K * 2 + 1) = 0
      · have HT := Lib.hid (fun j => bothK_yes (g := g) ht j)
        obtain ⟨t0, t1⟩ := ht
        rw [t0] at c0
        rw [t1] at c1
        clear t0 t1
        go_wp2_with fail
        go_roundw
        case rel =>
          have := HB.out
          refine ⟨K + 1, by omega, by go_num, ?_, bel⟩
          refine ((HI.out.set (K * 2) (g (K * 2)) (by omega) (fun j => if j = K * 2 then g (K * 2) else bothK f g K j) (fun j => rfl)).set (K * 2 + 1) (g (K * 2 + 1)) (by omega) (bothK f g (K + 1)) (fun j => ?_))
          rw [HT.out j]
        case measure => simp [intOf]; omega
      · have HE := Lib.hid (bothK_no (g := g) ht)
        by_cases t0 : f (K * 2) = 0
        · have t1 : f (K * 2 + 1) ≠ 0 := fun q => ht ⟨t0, q⟩
          have e1 : (f (K * 2 + 1) == 0) = false := by simp [t1]
          rw [t0] at c0
          clear ht t0 t1
          go_wp2_with fail
          go_roundw
          case rel =>
            refine ⟨K + 1, by omega, by go_num, ?_, HB.out⟩
            rw [HE.out]
            exact HI.out
          case measure => simp [intOf]; omega
        · have e0 : (f (K * 2) == 0) = false := by simp [t0]
          clear ht t0
          go_wp2_with fail
          go_roundw
          case rel =>
            refine ⟨K + 1, by omega, by go_num, ?_, HB.out⟩
            rw [HE.out]
            exact HI.out
          case measure => simp [intOf]; omega
    · obtain rfl : K = n := by omega
      clear hb hI
      have := HB.out
      go_wp2
      go_ret2
      exact ⟨⟨_, rfl, HI.out.prs⟩, bel⟩
end Go.Proofs.Ythdieladjnneoaa
