
import Derived.Test.YthdieladjnneoaaRows
import Derived.Test.YthdieladjnneoaaPortL
namespace Go.Proofs.Ythdieladjnneoaa
set_option linter.unusedVariables false
set_option linter.unusedSimpArgs false
open Go.ChangeShapes Go.WideShapes Go.RowKit

theorem takeK_at {s : Nat → ByteArray} {n K : Nat} (h : K < n) : takeK s n (K * 2) = tk K (s K) ∧ takeK s n (K * 2 + 1) = ti K (s K) := by
  unfold takeK takeF
  constructor
  · rw [if_pos (by omega), if_pos (by omega), show K * 2 / 2 = K by omega]
  · rw [if_pos (by omega), if_neg (by omega), show (K * 2 + 1) / 2 = K by omega]
theorem own_back {s : ByteArray} {K : Nat} (h : Wire.kind s.data.toList = 1 ∨ Wire.kind s.data.toList = 2) (hi : Wire.id_ s.data.toList = K) : ByteArray.mk (Wire.put (Wire.kind s.data.toList) K).toArray = s := by
  have hB : Wire.isB s.data.toList = true := by
    by_cases hB : Wire.isB s.data.toList = true
    · exact hB
    · exfalso
      unfold Wire.kind at h
      rw [if_neg hB] at h
      split at h <;> omega
  obtain ⟨h1, h2⟩ := Wire.isB_bytes hB
  have hne : s.data.toList ≠ [] := by intro q; rw [q] at hB; cases hB
  have hk : Wire.kind s.data.toList = ((s.data.toList.getD 1 0).toNat : Int) := by unfold Wire.kind; rw [if_neg hne, if_pos hB]
  have hi2 : Wire.id_ s.data.toList = ((s.data.toList.getD 2 0).toNat : Int) := by unfold Wire.id_; rw [if_pos hB]
  rw [hk, show (K : Int) = ((s.data.toList.getD 2 0).toNat : Int) by omega, Wire.put_yes h2]
  simp only [Int.toNat_natCast]
  rw [← h1]
theorem own_not {s : ByteArray} {K : Nat} (h : ¬ ((Wire.kind s.data.toList = 1 ∨ Wire.kind s.data.toList = 2) ∧ Wire.id_ s.data.toList = K)) (h8 : K < 8) (k : Nat) (hk : k = 1 ∨ k = 2) : s ≠ ByteArray.mk (Wire.put k K).toArray := by
  have hr : Wire.right k K = true := Wire.right_spec.2 (by omega)
  rw [Wire.put_yes hr]
  simp only [Int.toNat_natCast]
  refine fun q => h ?_
  subst q
  obtain ⟨e1, e2⟩ := Wire.kind_bytes hr
  rw [show (ByteArray.mk (Wire.bytes k K).toArray).data.toList = Wire.bytes k K from rfl, e1, e2]
  omega
theorem own_un {s t : ByteArray} (h : s ≠ t) : (s.toList == t.toList) = false := by
  refine beq_eq_false_iff_ne.2 (fun q => h ?_)
  rw [ByteArray.toList_eq, ByteArray.toList_eq] at q
  obtain ⟨⟨a⟩⟩ := s
  obtain ⟨⟨b⟩⟩ := t
  simp at q
  subst q
  rfl
set_option maxHeartbeats 1000000 in
theorem portOwn_any (n : Nat) (hn : n < 256) (v : Value) (m : Nat) (s : Nat → ByteArray) (w : World) (hm : m ≤ maxLen) (hs : ∀ j, j < m → (s j).size ≤ maxLen) (hv : Strs w v m s) :
    Calls Try.prog 4 #[.int .u8 n, v] w fun e w' => e = .returned (.bool true) ∧ Below w.heap.size w w' := by
  obtain ⟨p0, c0, rfl⟩ := hv.form
  have HV := Lib.hid hv
  clear hv
  have HM := Lib.hid hm
  have HS := Lib.hid hs
  clear hm hs
  go_enter Try.func4, Try.ntmps4
  go_wp2_with fail
  have m3 : (3 : Int) ≤ 3 + (n : Int) % 6 := by omega
  have m8 : 3 + (n : Int) % 6 ≤ 8 := by omega
  generalize 3 + (n : Int) % 6 = M at *
  have hR : Conf.right M = true := Conf.right_spec.2 (by omega)
  refine (short_any _ m s _ HM.out (HV.out.below bel)).mono ?_
  rintro e w1 ⟨⟨sb, rfl, hsb⟩, hb⟩
  have hz := hb.size
  (try simp only [World.size_alloc, World.heap_drewN, World.size_drew, World.size_setCell] at hz)
  have HB1 := Lib.hid (show Below w.heap.size w w1 from bel)
  clear hb
  cases sb
  · go_wp2_with fail
    refine (awake10_any _).mono ?_; rintro e w2 ⟨rfl, hb⟩; have hz := hb.size; (try simp only [World.size_alloc, World.heap_drewN, World.size_drew, World.size_setCell] at hz)
    have := HB1.out
    go_wp2
    go_ret
    exact ⟨rfl, bel⟩
  clear hsb
  go_wp2_with fail
  refine (Take_any M _ m s _ HM.out HS.out (HV.out.below HB1.out)).mono ?_
  rintro e w2 ⟨⟨x, rfl, hx⟩, hb⟩
  have hz := hb.size
  have HB2 := Lib.hid (show Below w.heap.size w w2 from by have := HB1.out; exact bel)
  obtain ⟨p1, c1, rfl⟩ := hx.form
  by_cases hl : (m : Int) = M
  · subst hl
    rw [show takeLen m m = m from if_pos ⟨hR, rfl⟩] at hx ⊢
    rw [show takeErr m m = 0 by unfold takeErr; rw [if_pos hR, if_pos rfl]]
    have HX2 := Lib.hid hx
    have HV2 := Lib.hid (HV.out.below HB2.out)
    clear hb hx HV
    go_wp2_with fail
    go_loopw [8] (fun k wr => ∃ K : Nat, K ≤ m ∧ k = .int .i64 K ∧ Below w2.heap.size w2 wr) (fun k _ => m - (intOf k).toNat)
    case atStart => exact ⟨0, by omega, rfl, bel⟩
    case round =>
      obtain ⟨K, hK, rfl, hb⟩ := hrel
      have HB := Lib.hid hb
      by_cases hlt2 : K < m
      · have h1 : (K : Int) < m := by omega
        have h0 : (0 : Int) ≤ K := by omega
        obtain ⟨b1, o1, rfl, hl1, hc1⟩ := HX2.out.some (by omega)
        obtain ⟨q0, q1⟩ := takeK_at (s := s) hlt2
        obtain ⟨c0, c1⟩ := two_cells hc1 hb hlt2
        rw [q0] at c0
        rw [q1] at c1
        rcases HV2.out with ⟨h0, -⟩ | ⟨b0, o0, cc, e, hb0, hf0⟩
        · omega
        injection e with e e1 e2
        subst e
        have z0 : wr.cell? ⟨b0, o0 + K, none⟩ = some (.string (s K)) := by
          have e0 := hf0 K hlt2
          rw [hb.cell (block_lt_of_cell e0)]; exact e0
        clear hc1 q0 q1 hf0 e1 e2 hb
        by_cases ht : (Wire.kind (s K).data.toList = 1 ∨ Wire.kind (s K).data.toList = 2) ∧ Wire.id_ (s K).data.toList = K
        · have e0 : tk K (s K) = Wire.kind (s K).data.toList := if_pos ht
          have e1 : ti K (s K) = Wire.id_ (s K).data.toList := if_pos ht
          have e2 := own_back ht.1 ht.2
          have RP := Lib.hid (fun w => refPut_any (Wire.kind (s K).data.toList) K w)
          rw [e2] at RP
          rw [e0] at c0
          rw [e1, ht.2] at c1
          obtain ⟨hk, -⟩ := ht
          clear e0 e1 e2
          generalize Wire.kind (s K).data.toList = xk at *
          generalize s K = y at *
          rcases hk with rfl | rfl
          all_goals
            go_wp2_with fail
            refine region_below (by kernel_rfl) (by kernel_rfl) ?_; intro wR HW
            have HBR := Lib.hid (show Below w2.heap.size w2 wR from by have := HB.out; rw [← HW.out]; exact bel)
            rw [HW.out] at c0 c1 z0
            replace c0 := cell_regrown c0
            replace c1 := cell_regrown c1
            replace z0 := cell_regrown z0
            (repeat (first | go_big_quiet_step (first | with_reducible exact Calls.regrown_of (RP.out _)) | quiet_step (first | with_reducible exact Calls.regrown_of (RP.out _)))); refine wpQuiet_nil ?_; intro w2 hb2
            go_wp2
            go_roundw
            case rel => exact ⟨K + 1, by omega, by go_num, by have := HBR.out; exact bel⟩
            case measure => simp [intOf]; omega
        · have e0 : tk K (s K) = 0 := if_neg ht
          have e1 : ti K (s K) = 0 := if_neg ht
          have n1 := own_un (own_not ht (by omega) 1 (Or.inl rfl))
          have n2 := own_un (own_not ht (by omega) 2 (Or.inr rfl))
          have R1 := Lib.hid (fun w => refPut_any 1 K w)
          have R2 := Lib.hid (fun w => refPut_any 2 K w)
          rw [e0] at c0
          rw [e1] at c1
          clear ht e0 e1
          simp only [Int.cast_ofNat_Int] at n1 n2
          generalize ByteArray.mk (Wire.put 1 K).toArray = y1 at *
          generalize ByteArray.mk (Wire.put 2 K).toArray = y2 at *
          generalize s K = y at *
          go_wp2_with fail
          refine region_below (by kernel_rfl) (by kernel_rfl) ?_; intro wR HW
          have HBR := Lib.hid (show Below w2.heap.size w2 wR from by have := HB.out; rw [← HW.out]; exact bel)
          rw [HW.out] at c0 c1 z0
          replace c0 := cell_regrown c0
          replace c1 := cell_regrown c1
          replace z0 := cell_regrown z0
          (repeat (first | go_big_quiet_step (first | with_reducible exact Calls.regrown_of (R1.out _) | with_reducible exact Calls.regrown_of (R2.out _)) | quiet_step (first | with_reducible exact Calls.regrown_of (R1.out _) | with_reducible exact Calls.regrown_of (R2.out _)))); refine wpQuiet_nil ?_; intro w2 hb2
          go_wp2
          go_roundw
          case rel => exact ⟨K + 1, by omega, by go_num, by have := HBR.out; exact bel⟩
          case measure => simp [intOf]; omega
      · obtain rfl : K = m := by omega
        clear hb
        have HB6 := Lib.hid (show Below w.heap.size w wr from by have h5 := HB2.out; have h6 := HB.out; exact bthru h6 h5)
        go_wp2_with fail
        refine (awake10_any _).mono ?_; rintro e w6 ⟨rfl, hb⟩; have hz := hb.size; (try simp only [World.size_alloc, World.heap_drewN, World.size_drew, World.size_setCell] at hz)
        have := HB6.out
        go_wp2
        go_ret
        exact ⟨rfl, bel⟩
  · rw [show takeLen M m = 0 by unfold takeLen; rw [if_neg (fun q => hl q.2)]]
    rw [show takeErr M m = 2 by unfold takeErr; rw [if_pos hR, if_neg hl]]
    have q : ((m : Int) != M) = true := by simp [hl]
    clear hb hx hl
    go_wp2_with fail
    refine (awake10_any _).mono ?_; rintro e w3 ⟨rfl, hb⟩; have hz := hb.size; (try simp only [World.size_alloc, World.heap_drewN, World.size_drew, World.size_setCell] at hz)
    have := HB2.out
    go_wp2
    go_ret
    exact ⟨rfl, bel⟩
theorem portOwn_walk {w : World} (n : Nat) (hn : n < 256) (v : Value) (m : Nat) (s : Nat → ByteArray) (hm : m ≤ maxLen) (hv : Strs w v m s) (hs : ∀ j, j < m → (s j).size ≤ maxLen) :
    Calls Try.prog 4 #[.int .u8 n, v] w fun e w' => e = .returned (.bool true) ∧ Below w.heap.size w w' := portOwn_any n hn v m s w hm hs hv
theorem portBoth_walk {w : World} (va : Value) (na : Nat) (f : Nat → Int) (hna : na ≤ maxLen) (ha : Prs w va na f) (vb : Value) (nb : Nat) (g : Nat → Int) (hnb : nb ≤ maxLen) (hb : Prs w vb nb g) :
    Calls Try.prog 5 #[va, vb] w fun e w' => e = .returned (.bool true) ∧ Below w.heap.size w w' := portBoth_any va vb na nb f g w hna hnb ha hb
theorem portTells_walk {w : World} (n : Int) (hn : -9223372036854775808 ≤ n ∧ n ≤ 9223372036854775807) (v : Value) (m : Nat) (s : Nat → ByteArray) (hm : m ≤ maxLen) (hv : Strs w v m s) (hs : ∀ j, j < m → (s j).size ≤ maxLen)
    (va : Value) (na : Nat) (f : Nat → Int) (hna : na ≤ maxLen) (ha : Prs w va na f) (vb : Value) (nb : Nat) (g : Nat → Int) (hnb : nb ≤ maxLen) (hb : Prs w vb nb g) :
    Calls Try.prog 3 #[.agg #[.int .i64 n, v, va, vb]] w fun e w' => e = .returned (.bool true) ∧ Below w.heap.size w w' := portTells_any n v va vb m na nb s f g w hm hna hnb hs hv ha hb
end Go.Proofs.Ythdieladjnneoaa
