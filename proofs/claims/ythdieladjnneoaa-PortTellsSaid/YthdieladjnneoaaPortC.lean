
import Derived.Test.YthdieladjnneoaaRows
import Derived.Test.YthdieladjnneoaaPortB
import Derived.Test.YthdieladjnneoaaWireD
import Derived.Test.YthdieladjnneoaaConfA
namespace Go.Proofs.Ythdieladjnneoaa
set_option linter.unusedVariables false
set_option linter.unusedSimpArgs false
open Go.ChangeShapes Go.WideShapes Go.RowKit

/-- What the port 'p' takes in of bytes. -/
def tk (p : Nat) (s : ByteArray) : Int := if (Wire.kind s.data.toList = 1 ∨ Wire.kind s.data.toList = 2) ∧ Wire.id_ s.data.toList = p then Wire.kind s.data.toList else 0
def ti (p : Nat) (s : ByteArray) : Int := if (Wire.kind s.data.toList = 1 ∨ Wire.kind s.data.toList = 2) ∧ Wire.id_ s.data.toList = p then Wire.id_ s.data.toList else 0
def takeF (s : Nat → ByteArray) (j : Nat) : Int := if j % 2 = 0 then tk (j / 2) (s (j / 2)) else ti (j / 2) (s (j / 2))
def takeK (s : Nat → ByteArray) (K j : Nat) : Int := if j < 2 * K then takeF s j else 0
theorem takeK_two (s : Nat → ByteArray) (K j : Nat) : takeK s (K + 1) j = if j = K * 2 + 1 then ti K (s K) else if j = K * 2 then tk K (s K) else takeK s K j := by
  unfold takeK
  by_cases e1 : j = K * 2 + 1
  · subst e1
    rw [if_pos (by omega), if_pos rfl]
    unfold takeF
    rw [if_neg (by omega), show (K * 2 + 1) / 2 = K by omega]
  · rw [if_neg e1]
    by_cases e0 : j = K * 2
    · subst e0
      rw [if_pos (by omega), if_pos rfl]
      unfold takeF
      rw [if_pos (by omega), show K * 2 / 2 = K by omega]
    · rw [if_neg e0]
      by_cases h : j < 2 * K
      · rw [if_pos h, if_pos (by omega)]
      · rw [if_neg h, if_neg (by omega)]
theorem make_pairs (n : Nat) (hn : n ≤ 1000) (w : World) :
    (Instr.makeSlice 23 (.int .i64 (n : Int)) (.int .i64 (n : Int))).run Try.prog w = .ok (.slice (some ⟨w.heap.size, 0, none⟩) n n) (w.alloc (.cells (madeCells #[.int .i64 0, .int .i64 0] (2 * n)) 35)) := by
  have hinfo : (Try.prog.info? 35).map (fun i => (i.zero, i.size, i.bytes)) = some (some (.agg #[.int .i64 0, .int .i64 0]), 2, 16) := by kernel_rfl
  obtain ⟨i, hi, hzz⟩ := Option.map_eq_some_iff.1 hinfo
  simp only [Prod.mk.injEq] at hzz
  obtain ⟨hz, hs, hb⟩ := hzz
  have hr := run_make (P := Try.prog) w 23 35 i _ Try.underlying23 hi hz .i64 .i64 n n (by omega) (Int.le_refl _) (by rw [hb]; omega) (by omega)
  simp only [Int.toNat_natCast, hs] at hr
  rw [hr, Nat.mul_comm]
  rfl
set_option maxHeartbeats 1000000 in
theorem refTake_at (n b o cap : Nat) (s : Nat → ByteArray) (w : World) (hn : 3 ≤ n ∧ n ≤ 8) (hlt : b < w.heap.size) (hf : ∀ j, j < n → w.cell? ⟨b, o + j, none⟩ = some (.string (s j))) :
    Calls Try.prog 9 #[.int .i64 n, .slice (some ⟨b, o, none⟩) n cap] w fun e w' => e = .returned (.tuple #[.slice (some ⟨w.heap.size, 0, none⟩) n n, .int .i64 0]) ∧ Ints w' w.heap.size (2 * n) (takeK s n) ∧ Below w.heap.size w w' := by
  have HF := Lib.hid hf
  have hmk := make_pairs n (by omega)
  have hr : Conf.right n = true := Conf.right_spec.2 (by omega)
  clear hf
  go_enter Try.func9, Try.ntmps9
  go_wp2_with fail
  refine (refCright_any _ _).mono ?_; rintro e w' ⟨rfl, rfl⟩
  rw [hr]
  go_wp2_with fail
  clear hmk
  have hI : Ints (w.alloc (.cells (madeCells #[.int .i64 0, .int .i64 0] (2 * n)) 35)) w.heap.size (2 * n) (takeK s 0) := by
    have h := Ints.made w (2 * n) 35
    rw [show takeK s 0 = fun _ => 0 from funext fun j => if_neg (by omega)]
    exact h
  have HI := Lib.hid hI
  clear hI
  go_loopw [7] (fun k wr => ∃ K : Nat, K ≤ n ∧ k = .int .i64 K ∧ Ints wr w.heap.size (2 * n) (takeK s K) ∧ Below w.heap.size w wr) (fun k _ => n - (intOf k).toNat)
  case atStart => exact ⟨0, by omega, rfl, HI.out, bel⟩
  case round =>
    clear HI
    obtain ⟨K, hK, rfl, hI, hb⟩ := hrel
    have HB := Lib.hid hb
    have HI := Lib.hid hI
    by_cases hlt2 : K < n
    · have h1 : (K : Int) < n := by omega
      have h0 : (0 : Int) ≤ K := by omega
      have c0 : wr.cell? ⟨b, o + K, none⟩ = some (.string (s K)) := by
        have e0 := HF.out K hlt2
        rw [hb.cell (block_lt_of_cell e0)]; exact e0
      have HT := Lib.hid (takeK_two s K)
      clear hb hI
      have CG := Lib.hid (fun w => refGet_any (s K) w)
      unfold tk ti at HT
      generalize Wire.kind (s K).data.toList = xk at *
      generalize Wire.id_ (s K).data.toList = xi at *
      by_cases ht : (xk = 1 ∨ xk = 2) ∧ xi = K
      · obtain ⟨hk, hi⟩ := ht
        subst hi
        rcases hk with hk | hk
        · subst hk
          go_wp2_with fail
          refine (CG.out _).mono ?_; rintro e w1 ⟨rfl, hb⟩; have hz := hb.size; (try simp only [World.size_alloc, World.heap_drewN, World.size_drew, World.size_setCell] at hz)
          have HB1 := Lib.hid (show Below w.heap.size w w1 from by have := HB.out; exact bel)
          have HI1 := Lib.hid (HI.out.below hb)
          clear hb HI
          have hz1 := HI1.out.1
          obtain ⟨g0, f0⟩ := HI1.out.2 (K * 2) (by omega)
          obtain ⟨g1, f1⟩ := HI1.out.2 (K * 2 + 1) (by omega)
          go_wp2_with fail
          go_roundw
          case rel =>
            have := HB1.out
            refine ⟨K + 1, by omega, by go_num, ?_, bel⟩
            refine Ints.alloc (((HI1.out.set (K * 2) 1 (by omega) (fun j => if j = K * 2 then 1 else takeK s K j) (fun j => rfl)).set (K * 2 + 1) K (by omega) (takeK s (K + 1)) (fun j => ?_))) _
            rw [HT.out j]
            by_cases e1 : j = K * 2 + 1
            · simp [e1]
            · simp [e1]
          case measure => simp [intOf]; omega
        · subst hk
          go_wp2_with fail
          refine (CG.out _).mono ?_; rintro e w1 ⟨rfl, hb⟩; have hz := hb.size; (try simp only [World.size_alloc, World.heap_drewN, World.size_drew, World.size_setCell] at hz)
          have HB1 := Lib.hid (show Below w.heap.size w w1 from by have := HB.out; exact bel)
          have HI1 := Lib.hid (HI.out.below hb)
          clear hb HI
          have hz1 := HI1.out.1
          obtain ⟨g0, f0⟩ := HI1.out.2 (K * 2) (by omega)
          obtain ⟨g1, f1⟩ := HI1.out.2 (K * 2 + 1) (by omega)
          go_wp2_with fail
          go_roundw
          case rel =>
            have := HB1.out
            refine ⟨K + 1, by omega, by go_num, ?_, bel⟩
            refine Ints.alloc (((HI1.out.set (K * 2) 2 (by omega) (fun j => if j = K * 2 then 2 else takeK s K j) (fun j => rfl)).set (K * 2 + 1) K (by omega) (takeK s (K + 1)) (fun j => ?_))) _
            rw [HT.out j]
            by_cases e1 : j = K * 2 + 1
            · simp [e1]
            · simp [e1]
          case measure => simp [intOf]; omega
      · have HE : Hid (takeK s (K + 1) = takeK s K) := funext fun j => by
          rw [HT.out j, if_neg ht, if_neg ht]
          by_cases e1 : j = K * 2 + 1
          · rw [if_pos e1]; unfold takeK; rw [if_neg (by omega)]
          · rw [if_neg e1]
            by_cases e0 : j = K * 2
            · rw [if_pos e0]; unfold takeK; rw [if_neg (by omega)]
            · rw [if_neg e0]
        clear HT
        by_cases hk : xk = 1 ∨ xk = 2
        · have q : (xi == (K : Int)) = false := by simp; omega
          clear ht
          rcases hk with hk | hk
          · subst hk
            go_wp2_with fail
            refine (CG.out _).mono ?_; rintro e w1 ⟨rfl, hb⟩; have hz := hb.size; (try simp only [World.size_alloc, World.heap_drewN, World.size_drew, World.size_setCell] at hz)
            have HB1 := Lib.hid (show Below w.heap.size w w1 from by have := HB.out; exact bel)
            have HI1 := Lib.hid (HI.out.below hb)
            clear hb HI
            have hz1 := HI1.out.1
            obtain ⟨g0, f0⟩ := HI1.out.2 (K * 2) (by omega)
            obtain ⟨g1, f1⟩ := HI1.out.2 (K * 2 + 1) (by omega)
            go_wp2_with fail
            go_roundw
            case rel =>
              have := HB1.out
              refine ⟨K + 1, by omega, by go_num, ?_, bel⟩
              rw [HE.out]
              exact HI1.out.alloc _
            case measure => simp [intOf]; omega
          · subst hk
            go_wp2_with fail
            refine (CG.out _).mono ?_; rintro e w1 ⟨rfl, hb⟩; have hz := hb.size; (try simp only [World.size_alloc, World.heap_drewN, World.size_drew, World.size_setCell] at hz)
            have HB1 := Lib.hid (show Below w.heap.size w w1 from by have := HB.out; exact bel)
            have HI1 := Lib.hid (HI.out.below hb)
            clear hb HI
            have hz1 := HI1.out.1
            obtain ⟨g0, f0⟩ := HI1.out.2 (K * 2) (by omega)
            obtain ⟨g1, f1⟩ := HI1.out.2 (K * 2 + 1) (by omega)
            go_wp2_with fail
            go_roundw
            case rel =>
              have := HB1.out
              refine ⟨K + 1, by omega, by go_num, ?_, bel⟩
              rw [HE.out]
              exact HI1.out.alloc _
            case measure => simp [intOf]; omega
        · have q1 : (xk == 1) = false := by simp; omega
          have q2 : (xk == 2) = false := by simp; omega
          clear ht hk
          go_wp2_with fail
          refine (CG.out _).mono ?_; rintro e w1 ⟨rfl, hb⟩; have hz := hb.size; (try simp only [World.size_alloc, World.heap_drewN, World.size_drew, World.size_setCell] at hz)
          have HB1 := Lib.hid (show Below w.heap.size w w1 from by have := HB.out; exact bel)
          have HI1 := Lib.hid (HI.out.below hb)
          clear hb HI
          have hz1 := HI1.out.1
          obtain ⟨g0, f0⟩ := HI1.out.2 (K * 2) (by omega)
          obtain ⟨g1, f1⟩ := HI1.out.2 (K * 2 + 1) (by omega)
          go_wp2_with fail
          go_roundw
          case rel =>
            have := HB1.out
            refine ⟨K + 1, by omega, by go_num, ?_, bel⟩
            rw [HE.out]
            exact HI1.out.alloc _
          case measure => simp [intOf]; omega
    · obtain rfl : K = n := by omega
      clear hb hI
      have := HB.out
      go_wp2
      go_ret2
      exact ⟨rfl, HI.out, bel⟩
end Go.Proofs.Ythdieladjnneoaa
