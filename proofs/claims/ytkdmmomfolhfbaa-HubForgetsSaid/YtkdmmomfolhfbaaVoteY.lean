
import Derived.Test.YtkdmmomfolhfbaaRows
import Derived.Test.YtkdmmomfolhfbaaVoteX
import Derived.Test.YtkdmmomfolhfbaaMem
/-
  The places of all that tells how long ago something was, and the most that may stand there: an array of pointers into a hub, and numbers.
-/
namespace Go.Proofs.Ytkdmmomfolhfbaa
set_option linter.unusedVariables false
set_option linter.unusedSimpArgs false
open Go.ChangeShapes Go.WideShapes Go.RowKit

/-- Where the 'K'th of them stands in a hub. -/
def pl (K : Nat) : Nat := if K = 8 then 9 else K
/-- The most that it may be. -/
def ms (n : Int) (K : Nat) : Int := if K = 8 then 2 * n + 1 else Vote.most n K
/-- The cells, when the first 'K' ages of ports are written. -/
def agK (b : Nat) (n : Int) (K j : Nat) : Value := if j < 2 * K then (if j % 2 = 0 then .pointer (some ⟨b, j / 2, none⟩) else .int .i64 (Vote.most n (j / 2))) else if j % 2 = 0 then .pointer none else .int .i64 0
theorem agK_next (b : Nat) (n : Int) (K j : Nat) : agK b n (K + 1) j = if j = K * 2 + 1 then .int .i64 (Vote.most n K) else if j = K * 2 then .pointer (some ⟨b, K, none⟩) else agK b n K j := by
  unfold agK
  by_cases e : j = K * 2 + 1
  · rw [if_pos e, if_pos (by omega), if_neg (by omega), show j / 2 = K by omega]
  · rw [if_neg e]
    by_cases e2 : j = K * 2
    · rw [if_pos e2, if_pos (by omega), if_pos (by omega), show j / 2 = K by omega]
    · rw [if_neg e2]
      by_cases e3 : j < 2 * K
      · rw [if_pos (show j < 2 * (K + 1) by omega), if_pos e3]
      · rw [if_neg (show ¬ j < 2 * (K + 1) by omega), if_neg e3]
theorem agK_zero (b : Nat) (n : Int) (K : Nat) : agK b n K (K * 2 + 1) = .int .i64 0 := by
  unfold agK; rw [if_neg (by omega), if_neg (by omega)]
theorem eighteen {j : Nat} (h : j < 18) : j = 0 ∨ j = 1 ∨ j = 2 ∨ j = 3 ∨ j = 4 ∨ j = 5 ∨ j = 6 ∨ j = 7 ∨ j = 8 ∨ j = 9 ∨ j = 10 ∨ j = 11 ∨ j = 12 ∨ j = 13 ∨ j = 14 ∨ j = 15 ∨ j = 16 ∨ j = 17 := by omega
theorem Vls.nils (w : World) (b : Nat) (n : Int) (t : TypeId) : Vls (w.alloc (.cells #[.pointer none, .int .i64 0, .pointer none, .int .i64 0, .pointer none, .int .i64 0, .pointer none, .int .i64 0, .pointer none, .int .i64 0, .pointer none, .int .i64 0, .pointer none, .int .i64 0, .pointer none, .int .i64 0, .pointer none, .int .i64 0] t)) w.heap.size 18 (agK b n 0) := by
  refine ⟨by simp, fun j hj => ⟨?_, World.frozen?_alloc_at _ t _ j rfl⟩⟩
  refine range_cell (range_new w #[.pointer none, .int .i64 0, .pointer none, .int .i64 0, .pointer none, .int .i64 0, .pointer none, .int .i64 0, .pointer none, .int .i64 0, .pointer none, .int .i64 0, .pointer none, .int .i64 0, .pointer none, .int .i64 0, .pointer none, .int .i64 0] t) j ?_
  rcases eighteen hj with rfl | rfl | rfl | rfl | rfl | rfl | rfl | rfl | rfl | rfl | rfl | rfl | rfl | rfl | rfl | rfl | rfl | rfl <;> rfl
/-- All of them. -/
def ag18 (b : Nat) (m : Nat → Int) (j : Nat) : Value := if j % 2 = 0 then .pointer (some ⟨b, pl (j / 2), none⟩) else .int .i64 (m (j / 2))
theorem Vls.row18 {w : World} {c b : Nat} {m : Nat → Int} (h : Vls w c 18 (ag18 b m)) : w.rangeAt c 0 [.pointer (some ⟨b, 0, none⟩), .int .i64 (m 0), .pointer (some ⟨b, 1, none⟩), .int .i64 (m 1), .pointer (some ⟨b, 2, none⟩), .int .i64 (m 2), .pointer (some ⟨b, 3, none⟩), .int .i64 (m 3), .pointer (some ⟨b, 4, none⟩), .int .i64 (m 4), .pointer (some ⟨b, 5, none⟩), .int .i64 (m 5), .pointer (some ⟨b, 6, none⟩), .int .i64 (m 6), .pointer (some ⟨b, 7, none⟩), .int .i64 (m 7), .pointer (some ⟨b, 9, none⟩), .int .i64 (m 8)] := by
  intro j v hj
  have hj2 : j < 18 := by
    have := (List.getElem?_eq_some_iff.1 hj).1
    simpa using this
  have e := (h.2 j hj2).1
  rw [Nat.zero_add]
  rw [e]
  rcases eighteen hj2 with rfl | rfl | rfl | rfl | rfl | rfl | rfl | rfl | rfl | rfl | rfl | rfl | rfl | rfl | rfl | rfl | rfl | rfl <;> exact hj
/-- One of them, taken out of the array. -/
theorem ages_index (b : Nat) (m : Nat → Int) {K : Nat} (hK : K < 9) (w : World) : (Instr.index 56 (.agg #[.pointer (some ⟨b, 0, none⟩), .int .i64 (m 0), .pointer (some ⟨b, 1, none⟩), .int .i64 (m 1), .pointer (some ⟨b, 2, none⟩), .int .i64 (m 2), .pointer (some ⟨b, 3, none⟩), .int .i64 (m 3), .pointer (some ⟨b, 4, none⟩), .int .i64 (m 4), .pointer (some ⟨b, 5, none⟩), .int .i64 (m 5), .pointer (some ⟨b, 6, none⟩), .int .i64 (m 6), .pointer (some ⟨b, 7, none⟩), .int .i64 (m 7), .pointer (some ⟨b, 9, none⟩), .int .i64 (m 8)]) (.int .i64 K)).run Try.prog w = .ok (.agg #[.pointer (some ⟨b, pl K, none⟩), .int .i64 (m K)]) w := by
  have h9 : K = 0 ∨ K = 1 ∨ K = 2 ∨ K = 3 ∨ K = 4 ∨ K = 5 ∨ K = 6 ∨ K = 7 ∨ K = 8 := by omega
  rcases h9 with rfl | rfl | rfl | rfl | rfl | rfl | rfl | rfl | rfl <;> rfl
theorem Ints.there {w : World} {b n : Nat} {f : Nat → Int} (h : Ints w b n f) : w.there b 0 n := fun j hj => by
  have := h.2 j hj
  rw [Nat.zero_add]
  exact ⟨by rw [this.1]; rfl, this.2⟩
theorem one18 (b : Nat) (m : Nat → Int) : (#[.pointer (some ⟨b, 0, none⟩), .int .i64 (m 0), .pointer (some ⟨b, 1, none⟩), .int .i64 (m 1), .pointer (some ⟨b, 2, none⟩), .int .i64 (m 2), .pointer (some ⟨b, 3, none⟩), .int .i64 (m 3), .pointer (some ⟨b, 4, none⟩), .int .i64 (m 4), .pointer (some ⟨b, 5, none⟩), .int .i64 (m 5), .pointer (some ⟨b, 6, none⟩), .int .i64 (m 6), .pointer (some ⟨b, 7, none⟩), .int .i64 (m 7), .pointer (some ⟨b, 9, none⟩), .int .i64 (m 8)] : Array Value).all (·.oneCell') = true := by simp [Value.oneCell']
theorem one12 (f : Nat → Int) : (#[.int .i64 (f 0), .int .i64 (f 1), .int .i64 (f 2), .int .i64 (f 3), .int .i64 (f 4), .int .i64 (f 5), .int .i64 (f 6), .int .i64 (f 7), .int .i64 (f 8), .int .i64 (f 9), .int .i64 (f 10), .int .i64 (f 11)] : Array Value).all (·.oneCell') = true := by simp [Value.oneCell']
theorem Ints.setCells {w : World} {c : Nat} {g : Nat → Int} (h : Ints w c 12 g) (f : Nat → Int) : Ints (w.setCells c 0 [.int .i64 (f 0), .int .i64 (f 1), .int .i64 (f 2), .int .i64 (f 3), .int .i64 (f 4), .int .i64 (f 5), .int .i64 (f 6), .int .i64 (f 7), .int .i64 (f 8), .int .i64 (f 9), .int .i64 (f 10), .int .i64 (f 11)]) c 12 f := h.set12 f
theorem block_val (n x : Int) (h : Conf.tm n 2 = x) (w : World) :
    Calls Try.prog 38 #[.int .i64 n] w fun e w' => e = .returned (.int .i64 x) ∧ Below w.heap.size w w' := by
  rw [← h]
  exact cBlock_any n w
theorem Calls.back' {P : Program} {f : FuncId} {args : Array Value} {w : World} {v : Value} (h : Calls P f args w fun e w' => e = .returned v ∧ w' = w) : Calls P f args w fun e w' => e = .returned v ∧ w = w' :=
  h.mono fun _ _ ⟨h1, h2⟩ => ⟨h1, h2.symm⟩
theorem Calls.same_below {P : Program} {f : FuncId} {args : Array Value} {w : World} {v : Value} (h : Calls P f args w fun e w' => e = .returned v ∧ w' = w) : Calls P f args w fun e w' => e = .returned v ∧ Below w.heap.size w w' :=
  h.mono fun _ _ ⟨h1, h2⟩ => ⟨h1, by rw [h2]; exact Below.refl _ w⟩
set_option maxHeartbeats 2000000 in
theorem ages_any (n : Int) (b : Nat) (w : World) (h : Conf.right n = true) :
    Calls Try.prog 30 #[.int .i64 n, .pointer (some ⟨b, 0, none⟩)] w fun e w' => e = .returned (.agg #[.pointer (some ⟨b, 0, none⟩), .int .i64 (ms n 0), .pointer (some ⟨b, 1, none⟩), .int .i64 (ms n 1), .pointer (some ⟨b, 2, none⟩), .int .i64 (ms n 2), .pointer (some ⟨b, 3, none⟩), .int .i64 (ms n 3), .pointer (some ⟨b, 4, none⟩), .int .i64 (ms n 4), .pointer (some ⟨b, 5, none⟩), .int .i64 (ms n 5), .pointer (some ⟨b, 6, none⟩), .int .i64 (ms n 6), .pointer (some ⟨b, 7, none⟩), .int .i64 (ms n 7), .pointer (some ⟨b, 9, none⟩), .int .i64 (ms n 8)]) ∧ Below w.heap.size w w' := by
  have h38 := Conf.right_spec.1 h
  have ht : Conf.tm n 2 = 2 * n := Conf.tm_yes h
  have CB := Lib.hid (fun w => block_val n _ ht w)
  have s2 : IntKind.i64.wrap (2 * n + 1) = 2 * n + 1 := IntWalk.i64_in _ (by omega)
  have HM := Lib.hid (show ∀ K, ms n K = if K = 8 then 2 * n + 1 else Vote.most n K from fun _ => rfl)
  generalize ms n = m at *
  clear ht h
  go_enter Try.func30, Try.ntmps30
  go_upto_region 8 with fail
  have HZ := Lib.hid ((Vls.nils w b n 56).alloc (.cells #[.pointer none, .int .i64 0, .pointer none, .int .i64 0, .pointer none, .int .i64 0, .pointer none, .int .i64 0, .pointer none, .int .i64 0, .pointer none, .int .i64 0, .pointer none, .int .i64 0, .pointer none, .int .i64 0, .pointer none, .int .i64 0] 56))
  have HA := Lib.hid (Vls.nils (w.alloc (.cells #[.pointer none, .int .i64 0, .pointer none, .int .i64 0, .pointer none, .int .i64 0, .pointer none, .int .i64 0, .pointer none, .int .i64 0, .pointer none, .int .i64 0, .pointer none, .int .i64 0, .pointer none, .int .i64 0, .pointer none, .int .i64 0] 56)) b n 56)
  go_loopw [8] (fun k wr => ∃ K : Nat, K ≤ 8 ∧ k = .int .i64 K ∧ Vls wr (w.heap.size + 1) 18 (agK b n K) ∧ Vls wr w.heap.size 18 (agK b n 0) ∧ Below w.heap.size w wr) (fun k _ => 8 - (intOf k).toNat)
  case atStart =>
    refine ⟨0, by omega, rfl, ?_, HZ.out, bel⟩
    simpa using HA.out
  case round =>
    clear HA HZ
    obtain ⟨K, hK, rfl, hI, hZ, hb⟩ := hrel
    have HB := Lib.hid hb
    have HI := Lib.hid hI
    have HZ := Lib.hid hZ
    by_cases hlt : K < 8
    · have h1 : (K : Int) < 8 := by omega
      have h9 : (K : Int) < 9 := by omega
      have h0 : (0 : Int) ≤ K := by omega
      have f0 := (hI.2 (K * 2) (by omega)).2
      have f1 := (hI.2 (K * 2 + 1) (by omega)).2
      have c0 := (hI.2 (K * 2) (by omega)).1
      have c1 := (hI.2 (K * 2 + 1) (by omega)).1
      have HN := Lib.hid (agK_next b n K)
      have HE := Lib.hid (agK_zero b n K)
      have hz := hI.1
      clear hb hI hZ
      by_cases hp : (K : Int) < n
      · go_wp2_with fail
        go_roundw
        case rel =>
          have := HB.out
          refine ⟨K + 1, by omega, by go_num, (HI.out.set (K * 2) _ (by omega) _ (fun j => rfl)).set (K * 2 + 1) (.int .i64 n) (by omega) _ (fun j => ?_), (HZ.out.other _ _ _ (by omega)).other _ _ _ (by omega), bel⟩
          rw [HN.out, Vote.most_yes hp]
        case measure => simp [intOf]; omega
      · go_wp2_with fail
        go_roundw
        case rel =>
          have := HB.out
          refine ⟨K + 1, by omega, by go_num, (HI.out.set (K * 2) (.pointer (some ⟨b, K, none⟩)) (by omega) _ (fun j => rfl)).like (fun j hj => ?_), HZ.out.other _ _ _ (by omega), bel⟩
          rw [HN.out, Vote.most_no hp]
          by_cases e : j = K * 2 + 1
          · rw [if_pos e, if_neg (by omega), e, HE.out]
          · rw [if_neg e]
        case measure => simp [intOf]; omega
    · obtain rfl : K = 8 := by omega
      have hz := hI.1
      clear hb hI hZ
      go_upto_region 9 with fail
      refine region_below_tail 8 (by kernel_rfl) (by kernel_rfl) ?_; intro wR HW; simp only [List.take_succ_cons, List.take_zero, List.drop_succ_cons, List.drop_zero]
      have HBR := Lib.hid (show Below w.heap.size w wR from by have := HB.out; rw [← HW.out]; exact bel)
      have HIR := Lib.hid (show Vls wR (w.heap.size + 1) 18 (agK b n 8) from by rw [← HW.out]; exact HI.out)
      have HZR := Lib.hid (show Vls wR w.heap.size 18 (agK b n 0) from by rw [← HW.out]; exact HZ.out)
      clear HI HZ HB hz
      (repeat (first | go_big_quiet_step (first | with_reducible exact Calls.regrown_of (CB.out _)) | quiet_step (first | with_reducible exact Calls.regrown_of (CB.out _)))); refine wpQuiet_nil ?_; intro w2 hb2
      have HI2 := Lib.hid (HIR.out.below hb2)
      have HZ2 := Lib.hid (HZR.out.below hb2)
      have HB2 := Lib.hid (show Below w.heap.size w w2 from by have := HBR.out; exact bthru hb2 this)
      clear hb2 HIR HZR HBR
      have f16 := (HI2.out.2 16 (by decide)).2
      have f17 := (HI2.out.2 17 (by decide)).2
      have c16 := (HI2.out.2 16 (by decide)).1
      have c17 := (HI2.out.2 17 (by decide)).1
      have hz := HI2.out.1
      go_upto_region 10 with fail
      generalize hw3 : World.setCell _ _ _ = w3
      have HI3 := Lib.hid (show Vls w3 (w.heap.size + 1) 18 (fun j => if j = 17 then .int .i64 (2 * n + 1) else if j = 16 then .pointer (some ⟨b, 9, none⟩) else agK b n 8 j) from by
        rw [← hw3]
        exact (HI2.out.set 16 _ (by omega) _ (fun j => rfl)).set 17 (.int .i64 (2 * n + 1)) (by omega) _ (fun j => rfl))
      have HZ3 := Lib.hid (show Vls w3 w.heap.size 18 (agK b n 0) from by rw [← hw3]; exact (HZ2.out.other _ _ _ (by omega)).other _ _ _ (by omega))
      have HB3 := Lib.hid (show Below w.heap.size w w3 from by have := HB2.out; rw [← hw3]; exact bel)
      clear hw3 c16 c17 f16 f17 hz HI2 HZ2 HB2
      generalize hg : (fun j => if j = 17 then Value.int .i64 (2 * n + 1) else if j = 16 then .pointer (some ⟨b, 9, none⟩) else agK b n 8 j) = g at HI3
      have HI4 := Lib.hid (show Vls w3 (w.heap.size + 1) 18 (ag18 b m) from by
        refine HI3.out.like (fun j hj => ?_)
        rw [← hg]
        rcases eighteen hj with rfl | rfl | rfl | rfl | rfl | rfl | rfl | rfl | rfl | rfl | rfl | rfl | rfl | rfl | rfl | rfl | rfl | rfl <;> simp [agK, ag18, pl, HM.out])
      clear HI3 hg
      refine wp_region_lit ?_
      refine wpList_load_mid rfl _ _ rfl (w.heap.size + 1) 0 rfl _ _ HI4.out.row18 Try.underlying56 rfl (by kernel_rfl) ?_
      refine wpList_store_mid rfl _ _ _ rfl w.heap.size 0 _ rfl rfl HZ3.out.there (by kernel_rfl) (one18 b m) ?_
      have HR4 := Lib.hid (World.rangeAt_setCells_same w3 w.heap.size 0 [.pointer (some ⟨b, 0, none⟩), .int .i64 (m 0), .pointer (some ⟨b, 1, none⟩), .int .i64 (m 1), .pointer (some ⟨b, 2, none⟩), .int .i64 (m 2), .pointer (some ⟨b, 3, none⟩), .int .i64 (m 3), .pointer (some ⟨b, 4, none⟩), .int .i64 (m 4), .pointer (some ⟨b, 5, none⟩), .int .i64 (m 5), .pointer (some ⟨b, 6, none⟩), .int .i64 (m 6), .pointer (some ⟨b, 7, none⟩), .int .i64 (m 7), .pointer (some ⟨b, 9, none⟩), .int .i64 (m 8)] HZ3.out.there)
      have HB4 := Lib.hid (below_cells (Nat.le_refl w.heap.size) [.pointer (some ⟨b, 0, none⟩), .int .i64 (m 0), .pointer (some ⟨b, 1, none⟩), .int .i64 (m 1), .pointer (some ⟨b, 2, none⟩), .int .i64 (m 2), .pointer (some ⟨b, 3, none⟩), .int .i64 (m 3), .pointer (some ⟨b, 4, none⟩), .int .i64 (m 4), .pointer (some ⟨b, 5, none⟩), .int .i64 (m 5), .pointer (some ⟨b, 6, none⟩), .int .i64 (m 6), .pointer (some ⟨b, 7, none⟩), .int .i64 (m 7), .pointer (some ⟨b, 9, none⟩), .int .i64 (m 8)] 0 w3 HB3.out)
      generalize w3.setCells w.heap.size 0 _ = w4 at *
      go_wp2
      exact bodyPost_ret (ret_cell Try.results30 w.heap.size [.pointer (some ⟨b, 0, none⟩), .int .i64 (m 0), .pointer (some ⟨b, 1, none⟩), .int .i64 (m 1), .pointer (some ⟨b, 2, none⟩), .int .i64 (m 2), .pointer (some ⟨b, 3, none⟩), .int .i64 (m 3), .pointer (some ⟨b, 4, none⟩), .int .i64 (m 4), .pointer (some ⟨b, 5, none⟩), .int .i64 (m 5), .pointer (some ⟨b, 6, none⟩), .int .i64 (m 6), .pointer (some ⟨b, 7, none⟩), .int .i64 (m 7), .pointer (some ⟨b, 9, none⟩), .int .i64 (m 8)] _ rfl HR4.out Try.underlying56 rfl (by kernel_rfl)) rfl ⟨rfl, HB4.out⟩
end Go.Proofs.Ytkdmmomfolhfbaa
namespace Go.Proofs.Ytkdmmomfolhfbaa
set_option linter.unusedVariables false
set_option linter.unusedSimpArgs false
open Go.ChangeShapes Go.WideShapes Go.RowKit

/-- Which of the ages stands there. -/
def idx (j : Nat) : Nat := if j = 9 then 8 else if j < 8 then j else 100
theorem idx_pl {K : Nat} (h : K < 9) : idx (pl K) = K := by
  unfold idx pl
  by_cases e : K = 8
  · rw [if_pos e, if_pos rfl, e]
  · rw [if_neg e, if_neg (by omega), if_pos (by omega)]
theorem pl_idx {K j : Nat} (h : K < 9) (e : idx j = K) : j = pl K := by
  unfold idx at e
  unfold pl
  by_cases e9 : j = 9
  · rw [if_pos e9] at e; rw [if_pos e.symm, e9]
  · rw [if_neg e9] at e
    by_cases e8 : j < 8
    · rw [if_pos e8] at e; rw [if_neg (by omega), e]
    · rw [if_neg e8] at e; omega
theorem pl_lt {K : Nat} (h : K < 9) : pl K < 12 := by unfold pl; split <;> omega
/-- A hub, when the first 'K' of its ages are new. -/
def stK (new old : Nat → Int) (K j : Nat) : Int := if idx j < K then new j else old j
theorem stK_zero (new old : Nat → Int) : stK new old 0 = old := by funext j; exact if_neg (by omega)
theorem stK_at (new old : Nat → Int) {K : Nat} (h : K < 9) : stK new old K (pl K) = old (pl K) := if_neg (by rw [idx_pl h]; omega)
theorem stK_next (new old : Nat → Int) {K : Nat} (h : K < 9) (j : Nat) : stK new old (K + 1) j = if j = pl K then new (pl K) else stK new old K j := by
  unfold stK
  by_cases e : j = pl K
  · rw [if_pos e, if_pos (by rw [e, idx_pl h]; omega), e]
  · rw [if_neg e]
    by_cases e2 : idx j < K
    · rw [if_pos e2, if_pos (by omega)]
    · rw [if_neg e2, if_neg (fun q => e (pl_idx h (by omega)))]
theorem stK_end (new old : Nat → Int) (j : Nat) : stK new old 9 j = if j < 8 then new j else if j = 9 then new 9 else old j := by
  unfold stK idx
  by_cases e : j < 8
  · rw [if_pos e, if_neg (show ¬ j = 9 by omega), if_pos e, if_pos (show j < 9 by omega)]
  · rw [if_neg e, if_neg e]
    by_cases e9 : j = 9
    · rw [if_pos e9, if_pos (by decide), if_pos e9, e9]
    · rw [if_neg e9, if_neg (by omega), if_neg e9]
theorem ms_port (n : Int) {j : Nat} (h : j < 8) : ms n (idx j) = Vote.most n j := by
  unfold ms idx
  rw [if_neg (show ¬ j = 9 by omega), if_pos h, if_neg (by omega)]
theorem ms_cs (n : Int) : ms n (idx 9) = 2 * n + 1 := rfl
theorem fresh_end {n : Int} (h : Conf.right n = true) (j : Nat) : stK (fun j => ms n (idx j)) (fun _ => 0) 9 j = Vote.fresh n j := by
  rw [stK_end]
  unfold Vote.fresh
  rw [if_pos h]
  by_cases e : j < 8
  · rw [if_pos e, if_pos e, ms_port n e]
  · rw [if_neg e, if_neg e]
    by_cases e9 : j = 9
    · rw [if_pos e9, if_pos e9, ms_cs]
    · rw [if_neg e9, if_neg e9]
theorem two_new (w : World) (u v : Value) (t : TypeId) : (w.alloc (.cells #[u, v] t)).cell? ⟨w.heap.size, 0, none⟩ = some u ∧ (w.alloc (.cells #[u, v] t)).cell? ⟨w.heap.size, 1, none⟩ = some v :=
  ⟨range_cell (range_new w #[u, v] t) 0 rfl, range_cell (range_new w #[u, v] t) 1 rfl⟩
end Go.Proofs.Ytkdmmomfolhfbaa
namespace Go.Proofs.Ytkdmmomfolhfbaa
set_option linter.unusedVariables false
set_option linter.unusedSimpArgs false
open Go.ChangeShapes Go.WideShapes Go.RowKit

theorem ms_in {n : Int} (h : 3 ≤ n ∧ n ≤ 8) (K : Nat) : 0 ≤ ms n K ∧ ms n K ≤ 17 := by
  have := Vote.most_in h K
  unfold ms
  split <;> omega
theorem clean_end {n : Int} {f : Nat → Int} (h : Conf.right n = true) (j : Nat) (hj : j < 12) :
    (if j = 11 then f 11 % n else if j = 8 then f 8 % n else if j = 10 then Tally.clamp (f 10) 0 (2 * n) else stK (fun j => Tally.clamp (f j) 0 (ms n (idx j))) f 9 j) = Vote.clean n f j := by
  rw [stK_end]
  unfold Vote.clean
  rw [if_pos h]
  by_cases e : j < 8
  · rw [if_neg (show ¬ j = 11 by omega), if_neg (show ¬ j = 8 by omega), if_neg (show ¬ j = 10 by omega), if_pos e, if_pos e, ms_port n e]
  · have h4 : j = 8 ∨ j = 9 ∨ j = 10 ∨ j = 11 := by omega
    rcases h4 with rfl | rfl | rfl | rfl <;> simp [ms_cs]
set_option maxHeartbeats 4000000 in
theorem vClean_any (n : Int) (f : Nat → Int) (w : World) (hf : Bd12 f) :
    Calls Try.prog 29 #[.int .i64 n, .agg #[.int .i64 (f 0), .int .i64 (f 1), .int .i64 (f 2), .int .i64 (f 3), .int .i64 (f 4), .int .i64 (f 5), .int .i64 (f 6), .int .i64 (f 7), .int .i64 (f 8), .int .i64 (f 9), .int .i64 (f 10), .int .i64 (f 11)]] w fun e w' => e = .returned (.tuple #[.agg #[.int .i64 (Vote.clean n f 0), .int .i64 (Vote.clean n f 1), .int .i64 (Vote.clean n f 2), .int .i64 (Vote.clean n f 3), .int .i64 (Vote.clean n f 4), .int .i64 (Vote.clean n f 5), .int .i64 (Vote.clean n f 6), .int .i64 (Vote.clean n f 7), .int .i64 (Vote.clean n f 8), .int .i64 (Vote.clean n f 9), .int .i64 (Vote.clean n f 10), .int .i64 (Vote.clean n f 11)], .int .i64 (Vote.err n)]) ∧ Below w.heap.size w w' := by
  by_cases h : Conf.right n = true
  · have h38 := Conf.right_spec.1 h
    rw [Vote.err_yes h]
    have HR := Lib.hid h
    have HE := Lib.hid (fun j hj => clean_end (f := f) h j hj)
    have CA := Lib.hid (fun b w => ages_any n b w h)
    have HF := Lib.hid hf
    have CB := Lib.hid (fun w => block_val n _ (Conf.tm_yes h) w)
    generalize Vote.clean n f = g at *
    clear h hf
    go_enter Try.func29, Try.ntmps29
    go_wp2_with fail
    refine (cright_any _ _).mono ?_; rintro e w' ⟨rfl, rfl⟩
    rw [HR.out]
    go_upto_region 3 with fail
    have HI := Lib.hid ((Ints.box w f 24).alloc (.cells #[.int .i64 ((fun _ => (0 : Int)) 0), .int .i64 ((fun _ => (0 : Int)) 1), .int .i64 ((fun _ => (0 : Int)) 2), .int .i64 ((fun _ => (0 : Int)) 3), .int .i64 ((fun _ => (0 : Int)) 4), .int .i64 ((fun _ => (0 : Int)) 5), .int .i64 ((fun _ => (0 : Int)) 6), .int .i64 ((fun _ => (0 : Int)) 7), .int .i64 ((fun _ => (0 : Int)) 8), .int .i64 ((fun _ => (0 : Int)) 9), .int .i64 ((fun _ => (0 : Int)) 10), .int .i64 ((fun _ => (0 : Int)) 11)] 24))
    have HZ := Lib.hid (Ints.zeros (w.alloc (.cells #[.int .i64 (f 0), .int .i64 (f 1), .int .i64 (f 2), .int .i64 (f 3), .int .i64 (f 4), .int .i64 (f 5), .int .i64 (f 6), .int .i64 (f 7), .int .i64 (f 8), .int .i64 (f 9), .int .i64 (f 10), .int .i64 (f 11)] 24)) 24)
    go_wp2_with fail
    refine (CA.out _ _).mono ?_; rintro e w1 ⟨rfl, hb⟩; have hz := hb.size; (try simp only [World.size_alloc, World.heap_drewN, World.size_drew, World.size_setCell] at hz)
    have HB1 := Lib.hid (show Below w.heap.size w w1 from bel)
    have HI1 := Lib.hid (HI.out.below hb)
    have HZ1 := Lib.hid (HZ.out.below hb)
    clear hb HI HZ
    go_wp2_with fail
    go_loopw [14] (fun k wr => ∃ K : Nat, K ≤ 9 ∧ k = .int .i64 K ∧ Ints wr w.heap.size 12 (stK (fun j => Tally.clamp (f j) 0 (ms n (idx j))) f K) ∧ Ints wr (w.heap.size + 1) 12 (fun _ => 0) ∧ Below w.heap.size w wr) (fun k _ => 9 - (intOf k).toNat)
    case atStart =>
      refine ⟨0, by omega, rfl, ?_, ?_, HB1.out⟩
      · rw [stK_zero]
        exact HI1.out
      · simpa using HZ1.out
    case round =>
      clear HI1 HZ1 HB1
      obtain ⟨K, hK, rfl, hI, hZ, hb⟩ := hrel
      have HB := Lib.hid hb
      have HI := Lib.hid hI
      have HZ := Lib.hid hZ
      clear hb hI hZ
      by_cases hlt : K < 9
      · have h1 : (K : Int) < 9 := by omega
        have ha := ages_index w.heap.size (ms n) hlt
        have HN := Lib.hid (stK_next (fun j => Tally.clamp (f j) 0 (ms n (idx j))) f hlt)
        rw [idx_pl hlt] at HN
        have hp := pl_lt hlt
        have hm := ms_in h38 K
        have hat := stK_at (fun j => Tally.clamp (f j) 0 (ms n (idx j))) f hlt
        generalize ms n K = x at *
        generalize pl K = q at *
        have hfq := HF.out q hp
        have CC := Lib.hid (fun w => clamp_any (f q) 0 x (by omega) (by omega) (by omega) w)
        generalize Tally.clamp (f q) 0 x = y at *
        go_upto_region 6 with fail
        obtain ⟨c0, c1⟩ := two_new wr (.pointer (some ⟨w.heap.size, q, none⟩)) (.int .i64 x) 55
        have HI2 := Lib.hid (HI.out.alloc (.cells #[.pointer (some ⟨w.heap.size, q, none⟩), .int .i64 x] 55))
        have HZ2 := Lib.hid (HZ.out.alloc (.cells #[.pointer (some ⟨w.heap.size, q, none⟩), .int .i64 x] 55))
        have HB2 := Lib.hid (show Below w.heap.size w (wr.alloc (.cells #[.pointer (some ⟨w.heap.size, q, none⟩), .int .i64 x] 55)) from by have := HB.out; exact bel)
        generalize World.alloc wr _ = wa at *
        clear HI HZ HB
        obtain ⟨cq, fq⟩ := HI2.out.2 q hp
        rw [hat] at cq
        generalize f q = fv at *
        clear hat
        go_still_tail 10, (by kernel_rfl)
        repeat still_step
        still_call (Calls.back (CC.out _))
        repeat still_step
        refine wpStill_nil ?_
        change wpList _ _ _ _ _ wa.drew
        go_wp2
        go_roundw
        case rel =>
          have := HB2.out
          exact ⟨K + 1, by omega, by go_num, (show Ints wa.drew _ _ _ from HI2.out).set q y hp _ HN.out, (show Ints wa.drew _ _ _ from HZ2.out).other _ _ _ (by omega), bel⟩
        case measure => simp [intOf]; omega
      · obtain rfl : K = 9 := by omega
        have E8 := Lib.hid (stK_end (fun j => Tally.clamp (f j) 0 (ms n (idx j))) f 8)
        have E10 := Lib.hid (stK_end (fun j => Tally.clamp (f j) 0 (ms n (idx j))) f 10)
        have E11 := Lib.hid (stK_end (fun j => Tally.clamp (f j) 0 (ms n (idx j))) f 11)
        simp only [show ¬ (8 : Nat) < 8 by decide, show ¬ (8 : Nat) = 9 by decide, show ¬ (10 : Nat) < 8 by decide, show ¬ (10 : Nat) = 9 by decide, show ¬ (11 : Nat) < 8 by decide, show ¬ (11 : Nat) = 9 by decide, if_false] at E8 E10 E11
        generalize stK (fun j => Tally.clamp (f j) 0 (ms n (idx j))) f 9 = s at *
        have b8 := HF.out 8 (by decide)
        have b10 := HF.out 10 (by decide)
        have b11 := HF.out 11 (by decide)
        have CC := Lib.hid (fun w => clamp_any (f 10) 0 (2 * n) (by omega) (by omega) (by omega) w)
        have C8 := Lib.hid (fun w => mod_any n (f 8) (by omega) (by omega) w)
        have C11 := Lib.hid (fun w => mod_any n (f 11) (by omega) (by omega) w)
        clear b8 b10 b11
        generalize Tally.clamp (f 10) 0 (2 * n) = x10 at *
        generalize f 8 % n = x8 at *
        generalize f 11 % n = x11 at *
        go_upto_region 8 with fail
        refine region_below_tail 6 (by kernel_rfl) (by kernel_rfl) ?_; intro wR HW; simp only [List.take_succ_cons, List.take_zero, List.drop_succ_cons, List.drop_zero]
        have HBR := Lib.hid (show Below w.heap.size w wR from by have := HB.out; rw [← HW.out]; exact bel)
        have HIR := Lib.hid (show Ints wR w.heap.size 12 s from by rw [← HW.out]; exact HI.out)
        have HZR := Lib.hid (show Ints wR (w.heap.size + 1) 12 (fun _ => 0) from by rw [← HW.out]; exact HZ.out)
        clear HI HZ HB
        have c10 := (HIR.out.2 10 (by decide)).1
        rw [E10.out] at c10
        replace c10 := cell_regrown c10
        (repeat (first | go_big_quiet_step (first | with_reducible exact Calls.regrown_of (CB.out _) | with_reducible exact Calls.regrown_of (Calls.same_below (Calls.back (CC.out _)))) | quiet_step (first | with_reducible exact Calls.regrown_of (CB.out _) | with_reducible exact Calls.regrown_of (Calls.same_below (Calls.back (CC.out _)))))); refine wpQuiet_nil ?_; intro w2 hb2
        have HI2 := Lib.hid (HIR.out.below hb2)
        have HZ2 := Lib.hid (HZR.out.below hb2)
        have HB2 := Lib.hid (show Below w.heap.size w w2 from by have := HBR.out; exact bthru hb2 this)
        clear hb2 c10 HIR HZR HBR
        obtain ⟨c10, f10⟩ := HI2.out.2 10 (by decide)
        have hz := HI2.out.1
        go_upto_region 9 with fail
        generalize hw3 : World.setCell _ _ _ = w3
        have HI3 := Lib.hid (show Ints w3 w.heap.size 12 (fun j => if j = 10 then x10 else s j) from by rw [← hw3]; exact HI2.out.set 10 x10 (by decide) _ (fun j => rfl))
        have HZ3 := Lib.hid (show Ints w3 (w.heap.size + 1) 12 (fun _ => 0) from by rw [← hw3]; exact HZ2.out.other _ _ _ (by omega))
        have HB3 := Lib.hid (show Below w.heap.size w w3 from by have := HB2.out; rw [← hw3]; exact bel)
        clear hw3 c10 f10 HI2 HZ2 HB2
        have c8 : w3.cell? ⟨w.heap.size, 8, none⟩ = some (.int .i64 (f 8)) := by have := (HI3.out.2 8 (by decide)).1; rw [← E8.out]; exact this
        have c11 : w3.cell? ⟨w.heap.size, 11, none⟩ = some (.int .i64 (f 11)) := by have := (HI3.out.2 11 (by decide)).1; rw [← E11.out]; exact this
        have f8 := (HI3.out.2 8 (by decide)).2
        have f11 := (HI3.out.2 11 (by decide)).2
        go_still_tail 9, (by kernel_rfl)
        repeat still_step
        still_call (Calls.back (C8.out _))
        repeat still_step
        still_call (Calls.back (C11.out _))
        repeat still_step
        refine wpStill_nil ?_
        change wpList _ _ _ _ _ w3.drew
        go_upto_region 10 with fail
        generalize hw4 : World.drew _ = w4
        have HI4 := Lib.hid (show Ints w4 w.heap.size 12 g from by
          rw [← hw4]
          refine ((HI3.out.set 8 x8 (by decide) _ (fun j => rfl)).set 11 x11 (by decide) (fun j => if j = 11 then x11 else if j = 8 then x8 else if j = 10 then x10 else s j) (fun j => rfl)).like (fun j hj => ?_)
          exact HE.out j hj)
        have HZ4 := Lib.hid (show Ints w4 (w.heap.size + 1) 12 (fun _ => 0) from by rw [← hw4]; exact (HZ3.out.other _ _ _ (by omega)).other _ _ _ (by omega))
        have HB4 := Lib.hid (show Below w.heap.size w w4 from by have := HB3.out; rw [← hw4]; exact bel)
        clear hw4 c8 f8 c11 f11 HI3 HZ3 HB3
        have HI4_c0 := (HI4.out.2 0 (by decide)).1; have HI4_c1 := (HI4.out.2 1 (by decide)).1; have HI4_c2 := (HI4.out.2 2 (by decide)).1; have HI4_c3 := (HI4.out.2 3 (by decide)).1; have HI4_c4 := (HI4.out.2 4 (by decide)).1; have HI4_c5 := (HI4.out.2 5 (by decide)).1; have HI4_c6 := (HI4.out.2 6 (by decide)).1; have HI4_c7 := (HI4.out.2 7 (by decide)).1; have HI4_c8 := (HI4.out.2 8 (by decide)).1; have HI4_c9 := (HI4.out.2 9 (by decide)).1; have HI4_c10 := (HI4.out.2 10 (by decide)).1; have HI4_c11 := (HI4.out.2 11 (by decide)).1; have HI4_z := HI4.out.1
        have HZ4_r := HZ4.out.row12; have HZ4_c0 := (HZ4.out.2 0 (by decide)).1; have HZ4_f0 := (HZ4.out.2 0 (by decide)).2; have HZ4_c1 := (HZ4.out.2 1 (by decide)).1; have HZ4_f1 := (HZ4.out.2 1 (by decide)).2; have HZ4_c2 := (HZ4.out.2 2 (by decide)).1; have HZ4_f2 := (HZ4.out.2 2 (by decide)).2; have HZ4_c3 := (HZ4.out.2 3 (by decide)).1; have HZ4_f3 := (HZ4.out.2 3 (by decide)).2; have HZ4_c4 := (HZ4.out.2 4 (by decide)).1; have HZ4_f4 := (HZ4.out.2 4 (by decide)).2; have HZ4_c5 := (HZ4.out.2 5 (by decide)).1; have HZ4_f5 := (HZ4.out.2 5 (by decide)).2; have HZ4_c6 := (HZ4.out.2 6 (by decide)).1; have HZ4_f6 := (HZ4.out.2 6 (by decide)).2; have HZ4_c7 := (HZ4.out.2 7 (by decide)).1; have HZ4_f7 := (HZ4.out.2 7 (by decide)).2; have HZ4_c8 := (HZ4.out.2 8 (by decide)).1; have HZ4_f8 := (HZ4.out.2 8 (by decide)).2; have HZ4_c9 := (HZ4.out.2 9 (by decide)).1; have HZ4_f9 := (HZ4.out.2 9 (by decide)).2; have HZ4_c10 := (HZ4.out.2 10 (by decide)).1; have HZ4_f10 := (HZ4.out.2 10 (by decide)).2; have HZ4_c11 := (HZ4.out.2 11 (by decide)).1; have HZ4_f11 := (HZ4.out.2 11 (by decide)).2; have HZ4_z := HZ4.out.1
        have := HB4.out
        go_wp2
        refine bodyPost_ret (ret_cell_tmp Try.results29 (w.heap.size + 1) [.int .i64 ((g) 0), .int .i64 ((g) 1), .int .i64 ((g) 2), .int .i64 ((g) 3), .int .i64 ((g) 4), .int .i64 ((g) 5), .int .i64 ((g) 6), .int .i64 ((g) 7), .int .i64 ((g) 8), .int .i64 ((g) 9), .int .i64 ((g) 10), .int .i64 ((g) 11)] _ rfl rng Try.underlying24 rfl (by kernel_rfl)) rfl ⟨rfl, ?_⟩; exact bel
  · have h := Bool.eq_false_iff.2 h
    rw [Vote.err_no h]
    simp only [clean_no h]
    go_enter Try.func29, Try.ntmps29
    go_wp2_with fail
    refine (cright_any _ _).mono ?_; rintro e w' ⟨rfl, rfl⟩
    rw [h]
    go_wp2
    refine bodyPost_ret (ret_cell_tmp Try.results29 (w.heap.size + 1) [.int .i64 ((fun _ => 0) 0), .int .i64 ((fun _ => 0) 1), .int .i64 ((fun _ => 0) 2), .int .i64 ((fun _ => 0) 3), .int .i64 ((fun _ => 0) 4), .int .i64 ((fun _ => 0) 5), .int .i64 ((fun _ => 0) 6), .int .i64 ((fun _ => 0) 7), .int .i64 ((fun _ => 0) 8), .int .i64 ((fun _ => 0) 9), .int .i64 ((fun _ => 0) 10), .int .i64 ((fun _ => 0) 11)] _ rfl rng Try.underlying24 rfl (by kernel_rfl)) rfl ⟨rfl, ?_⟩; exact bel
end Go.Proofs.Ytkdmmomfolhfbaa
namespace Go.Proofs.Ytkdmmomfolhfbaa
set_option linter.unusedVariables false
set_option linter.unusedSimpArgs false
open Go.ChangeShapes Go.WideShapes Go.RowKit

theorem clamp_id {c m : Int} (h : 0 ≤ c ∧ c ≤ m) : Tally.clamp c 0 m = c := by
  unfold Tally.clamp
  rw [if_neg (by omega)]
  split <;> omega
theorem clean_id {n : Int} {f : Nat → Int} (h : Vote.Ok n f) (j : Nat) (hj : j < 12) : Vote.clean n f j = f j := by
  obtain ⟨h38, hA, h8, h9, h10, h11⟩ := h
  unfold Vote.clean
  rw [if_pos (Conf.right_spec.2 h38)]
  by_cases e : j < 8
  · rw [if_pos e, clamp_id (hA j e)]
  · rw [if_neg e]
    have h4 : j = 8 ∨ j = 9 ∨ j = 10 ∨ j = 11 := by omega
    rcases h4 with rfl | rfl | rfl | rfl
    · exact Int.emod_eq_of_lt (by omega) (by omega)
    · exact clamp_id h9
    · exact clamp_id h10
    · exact Int.emod_eq_of_lt (by omega) (by omega)
theorem ok_like {n : Int} {f g : Nat → Int} (h : Vote.Ok n g) (e : ∀ j, j < 12 → g j = f j) : Vote.Ok n f := by
  obtain ⟨h38, hA, h8, h9, h10, h11⟩ := h
  rw [e 8 (by decide)] at h8
  rw [e 9 (by decide)] at h9
  rw [e 10 (by decide)] at h10
  rw [e 11 (by decide)] at h11
  exact ⟨h38, fun j hj => by rw [← e j (by omega)]; exact hA j hj, h8, h9, h10, h11⟩
/-- Two hubs, compared. -/
def eq12 (f g : Nat → Int) : Bool := eq8 f g && (f 8 == g 8 && (f 9 == g 9 && (f 10 == g 10 && f 11 == g 11)))
theorem eq12_iff {f g : Nat → Int} : eq12 f g = true ↔ ∀ j, j < 12 → f j = g j := by
  unfold eq12 eq8
  simp only [Bool.and_eq_true, beq_iff_eq]
  constructor
  · rintro ⟨⟨e0, e1, e2, e3, e4, e5, e6, e7⟩, e8, e9, e10, e11⟩ j hj
    rcases twelve hj with rfl | rfl | rfl | rfl | rfl | rfl | rfl | rfl | rfl | rfl | rfl | rfl <;> assumption
  · intro h
    exact ⟨⟨h 0 (by decide), h 1 (by decide), h 2 (by decide), h 3 (by decide), h 4 (by decide), h 5 (by decide), h 6 (by decide), h 7 (by decide)⟩, h 8 (by decide), h 9 (by decide), h 10 (by decide), h 11 (by decide)⟩
theorem ok_eq12 {n : Int} {f : Nat → Int} (h : Conf.right n = true) : Vote.ok n f = eq12 (Vote.clean n f) f := by
  rw [Bool.eq_iff_iff, Vote.ok_iff, eq12_iff]
  exact ⟨fun q j hj => clean_id q j hj, fun q => ok_like (Vote.ok_clean f h) q⟩
set_option maxHeartbeats 4000000 in
theorem vRight_any (n : Int) (f : Nat → Int) (w : World) (hf : Bd12 f) :
    Calls Try.prog 17 #[.int .i64 n, .agg #[.int .i64 (f 0), .int .i64 (f 1), .int .i64 (f 2), .int .i64 (f 3), .int .i64 (f 4), .int .i64 (f 5), .int .i64 (f 6), .int .i64 (f 7), .int .i64 (f 8), .int .i64 (f 9), .int .i64 (f 10), .int .i64 (f 11)]] w fun e w' => e = .returned (.bool (Vote.ok n f)) ∧ Below w.heap.size w w' := by
  have CC := Lib.hid (fun w => vClean_any n f w hf)
  by_cases h : Conf.right n = true
  · rw [ok_eq12 h]
    rw [Vote.err_yes h] at CC
    generalize Vote.clean n f = g at *
    have HE := Lib.hid (show eq12 g f = (eq8 g f && (g 8 == f 8 && (g 9 == f 9 && (g 10 == f 10 && g 11 == f 11)))) from rfl)
    have HQ := hub_eq g f
    generalize eq8 g f = b8 at *
    generalize eq12 g f = r at *
    clear h hf
    go_enter Try.func17, Try.ntmps17
    go_upto_region 1 with fail
    have HI := Lib.hid (Ints.box w f 24)
    have HB := Lib.hid (show Below w.heap.size w (w.alloc (.cells #[.int .i64 (f 0), .int .i64 (f 1), .int .i64 (f 2), .int .i64 (f 3), .int .i64 (f 4), .int .i64 (f 5), .int .i64 (f 6), .int .i64 (f 7), .int .i64 (f 8), .int .i64 (f 9), .int .i64 (f 10), .int .i64 (f 11)] 24)) from bel)
    generalize hwa : World.alloc w _ = wa at *
    have hz0 : w.heap.size < wa.heap.size := HI.out.1
    clear hwa
    have HI_c0 := (HI.out.2 0 (by decide)).1; have HI_c1 := (HI.out.2 1 (by decide)).1; have HI_c2 := (HI.out.2 2 (by decide)).1; have HI_c3 := (HI.out.2 3 (by decide)).1; have HI_c4 := (HI.out.2 4 (by decide)).1; have HI_c5 := (HI.out.2 5 (by decide)).1; have HI_c6 := (HI.out.2 6 (by decide)).1; have HI_c7 := (HI.out.2 7 (by decide)).1; have HI_c8 := (HI.out.2 8 (by decide)).1; have HI_c9 := (HI.out.2 9 (by decide)).1; have HI_c10 := (HI.out.2 10 (by decide)).1; have HI_c11 := (HI.out.2 11 (by decide)).1; have HI_z := HI.out.1
    go_wp2_with fail
    refine (CC.out _).mono ?_; rintro e w1 ⟨rfl, hb⟩; have hz := hb.size; (try simp only [World.size_alloc, World.heap_drewN, World.size_drew, World.size_setCell] at hz)
    have HB1 := Lib.hid (show Below w.heap.size w w1 from by have := HB.out; exact bel)
    have HI1 := Lib.hid (HI.out.below hb)
    clear hb HI HB
    clear HI_c0 HI_c1 HI_c2 HI_c3 HI_c4 HI_c5 HI_c6 HI_c7 HI_c8 HI_c9 HI_c10 HI_c11 HI_z
    go_upto_region 2 with fail
    have HB2 := Lib.hid (show Below w.heap.size w (w1.alloc (.cells #[.int .i64 (g 0), .int .i64 (g 1), .int .i64 (g 2), .int .i64 (g 3), .int .i64 (g 4), .int .i64 (g 5), .int .i64 (g 6), .int .i64 (g 7), .int .i64 (g 8), .int .i64 (g 9), .int .i64 (g 10), .int .i64 (g 11)] 24)) from by have := HB1.out; exact bel)
    have HG := Lib.hid (Ints.box w1 g 24)
    have HI2 := Lib.hid (HI1.out.alloc (.cells #[.int .i64 (g 0), .int .i64 (g 1), .int .i64 (g 2), .int .i64 (g 3), .int .i64 (g 4), .int .i64 (g 5), .int .i64 (g 6), .int .i64 (g 7), .int .i64 (g 8), .int .i64 (g 9), .int .i64 (g 10), .int .i64 (g 11)] 24))
    generalize World.alloc w1 _ = w2 at *
    clear HI1 HB1
    have HI2_c0 := (HI2.out.2 0 (by decide)).1; have HI2_c1 := (HI2.out.2 1 (by decide)).1; have HI2_c2 := (HI2.out.2 2 (by decide)).1; have HI2_c3 := (HI2.out.2 3 (by decide)).1; have HI2_c4 := (HI2.out.2 4 (by decide)).1; have HI2_c5 := (HI2.out.2 5 (by decide)).1; have HI2_c6 := (HI2.out.2 6 (by decide)).1; have HI2_c7 := (HI2.out.2 7 (by decide)).1; have HI2_c8 := (HI2.out.2 8 (by decide)).1; have HI2_c9 := (HI2.out.2 9 (by decide)).1; have HI2_c10 := (HI2.out.2 10 (by decide)).1; have HI2_c11 := (HI2.out.2 11 (by decide)).1; have HI2_z := HI2.out.1
    have HG_c0 := (HG.out.2 0 (by decide)).1; have HG_c1 := (HG.out.2 1 (by decide)).1; have HG_c2 := (HG.out.2 2 (by decide)).1; have HG_c3 := (HG.out.2 3 (by decide)).1; have HG_c4 := (HG.out.2 4 (by decide)).1; have HG_c5 := (HG.out.2 5 (by decide)).1; have HG_c6 := (HG.out.2 6 (by decide)).1; have HG_c7 := (HG.out.2 7 (by decide)).1; have HG_c8 := (HG.out.2 8 (by decide)).1; have HG_c9 := (HG.out.2 9 (by decide)).1; have HG_c10 := (HG.out.2 10 (by decide)).1; have HG_c11 := (HG.out.2 11 (by decide)).1; have HG_z := HG.out.1
    have := HB2.out
    go_wp2
    all_goals
      go_ret
      refine ⟨ret_bool ?_, bel⟩
      clear HI2_c0 HI2_c1 HI2_c2 HI2_c3 HI2_c4 HI2_c5 HI2_c6 HI2_c7 HI2_c8 HI2_c9 HI2_c10 HI2_c11 HI2_z
      clear HG_c0 HG_c1 HG_c2 HG_c3 HG_c4 HG_c5 HG_c6 HG_c7 HG_c8 HG_c9 HG_c10 HG_c11 HG_z
      clear HB2 HI2 HG this CC HQ
      rw [HE.out]
      clear HE
      simp [*]
  · have h := Bool.eq_false_iff.2 h
    have HN : Hid (Vote.ok n f = false) := Vote.ok_no (fun q => by have := Conf.right_spec.2 q.1; rw [h] at this; cases this)
    rw [Vote.err_no h] at CC
    simp only [clean_no h] at CC
    go_enter Try.func17, Try.ntmps17
    go_wp2_with fail
    refine (CC.out _).mono ?_; rintro e w1 ⟨rfl, hb⟩; have hz := hb.size; (try simp only [World.size_alloc, World.heap_drewN, World.size_drew, World.size_setCell] at hz)
    go_wp2
    go_ret
    exact ⟨by rw [HN.out]; rfl, bel⟩
end Go.Proofs.Ytkdmmomfolhfbaa
namespace Go.Proofs.Ytkdmmomfolhfbaa
set_option linter.unusedVariables false
set_option linter.unusedSimpArgs false
open Go.ChangeShapes Go.WideShapes Go.RowKit

theorem tick_end {n : Int} {f : Nat → Int} (h : Vote.Ok n f) (j : Nat) (hj : j < 12) :
    (if j = 11 then (f 11 + 1) % n else if j = 10 then Tally.down (f 10) else stK (fun j => Tally.up (f j) (ms n (idx j))) f 9 j) = Vote.tick n f j := by
  rw [stK_end]
  by_cases e : j < 8
  · rw [if_neg (show ¬ j = 11 by omega), if_neg (show ¬ j = 10 by omega), if_pos e, ms_port n e, Vote.tick_age h e]
    by_cases hp : (j : Int) < n
    · rw [if_pos hp, Vote.most_yes hp]
    · have := h.2.1 j e
      rw [Vote.most_no hp] at this
      rw [if_neg hp, Vote.most_no hp, Vote.up_min this]
      omega
  · have h4 : j = 8 ∨ j = 9 ∨ j = 10 ∨ j = 11 := by omega
    rcases h4 with rfl | rfl | rfl | rfl
    · rw [Vote.tick_8 h]; rfl
    · rw [Vote.tick_9 h]; rfl
    · rw [Vote.tick_10 h]; rfl
    · rw [Vote.tick_11 h]; rfl
set_option maxHeartbeats 4000000 in
theorem vTick_any (n : Int) (f : Nat → Int) (w : World) (hf : Bd12 f) :
    Calls Try.prog 18 #[.int .i64 n, .agg #[.int .i64 (f 0), .int .i64 (f 1), .int .i64 (f 2), .int .i64 (f 3), .int .i64 (f 4), .int .i64 (f 5), .int .i64 (f 6), .int .i64 (f 7), .int .i64 (f 8), .int .i64 (f 9), .int .i64 (f 10), .int .i64 (f 11)]] w fun e w' => e = .returned (.tuple #[.agg #[.int .i64 (Vote.tick n f 0), .int .i64 (Vote.tick n f 1), .int .i64 (Vote.tick n f 2), .int .i64 (Vote.tick n f 3), .int .i64 (Vote.tick n f 4), .int .i64 (Vote.tick n f 5), .int .i64 (Vote.tick n f 6), .int .i64 (Vote.tick n f 7), .int .i64 (Vote.tick n f 8), .int .i64 (Vote.tick n f 9), .int .i64 (Vote.tick n f 10), .int .i64 (Vote.tick n f 11)], .int .i64 (Vote.tickErr n f)]) ∧ Below w.heap.size w w' := by
  have CR := Lib.hid (fun w => vRight_any n f w hf)
  by_cases h : Vote.ok n f = true
  · have hok := Vote.ok_iff.1 h
    have h38 := hok.1
    rw [tickErr_yes h]
    rw [h] at CR
    have HE := Lib.hid (fun j hj => tick_end hok j hj)
    have CA := Lib.hid (fun b w => ages_any n b w (Conf.right_spec.2 h38))
    have HF := Lib.hid hf
    have HOK := Lib.hid hok
    generalize Vote.tick n f = g at *
    clear h hf hok
    go_enter Try.func18, Try.ntmps18
    go_upto_region 1 with fail
    have HI := Lib.hid ((Ints.box w f 24).alloc (.cells #[.int .i64 ((fun _ => (0 : Int)) 0), .int .i64 ((fun _ => (0 : Int)) 1), .int .i64 ((fun _ => (0 : Int)) 2), .int .i64 ((fun _ => (0 : Int)) 3), .int .i64 ((fun _ => (0 : Int)) 4), .int .i64 ((fun _ => (0 : Int)) 5), .int .i64 ((fun _ => (0 : Int)) 6), .int .i64 ((fun _ => (0 : Int)) 7), .int .i64 ((fun _ => (0 : Int)) 8), .int .i64 ((fun _ => (0 : Int)) 9), .int .i64 ((fun _ => (0 : Int)) 10), .int .i64 ((fun _ => (0 : Int)) 11)] 24))
    have HZ := Lib.hid (Ints.zeros (w.alloc (.cells #[.int .i64 (f 0), .int .i64 (f 1), .int .i64 (f 2), .int .i64 (f 3), .int .i64 (f 4), .int .i64 (f 5), .int .i64 (f 6), .int .i64 (f 7), .int .i64 (f 8), .int .i64 (f 9), .int .i64 (f 10), .int .i64 (f 11)] 24)) 24)
    have HB := Lib.hid (show Below w.heap.size w ((w.alloc (.cells #[.int .i64 (f 0), .int .i64 (f 1), .int .i64 (f 2), .int .i64 (f 3), .int .i64 (f 4), .int .i64 (f 5), .int .i64 (f 6), .int .i64 (f 7), .int .i64 (f 8), .int .i64 (f 9), .int .i64 (f 10), .int .i64 (f 11)] 24)).alloc (.cells #[.int .i64 ((fun _ => (0 : Int)) 0), .int .i64 ((fun _ => (0 : Int)) 1), .int .i64 ((fun _ => (0 : Int)) 2), .int .i64 ((fun _ => (0 : Int)) 3), .int .i64 ((fun _ => (0 : Int)) 4), .int .i64 ((fun _ => (0 : Int)) 5), .int .i64 ((fun _ => (0 : Int)) 6), .int .i64 ((fun _ => (0 : Int)) 7), .int .i64 ((fun _ => (0 : Int)) 8), .int .i64 ((fun _ => (0 : Int)) 9), .int .i64 ((fun _ => (0 : Int)) 10), .int .i64 ((fun _ => (0 : Int)) 11)] 24)) from bel)
    rw [World.size_alloc] at HZ
    generalize hwa : World.alloc (World.alloc w _) _ = wa at *
    clear hwa
    have HI_c0 := (HI.out.2 0 (by decide)).1; have HI_c1 := (HI.out.2 1 (by decide)).1; have HI_c2 := (HI.out.2 2 (by decide)).1; have HI_c3 := (HI.out.2 3 (by decide)).1; have HI_c4 := (HI.out.2 4 (by decide)).1; have HI_c5 := (HI.out.2 5 (by decide)).1; have HI_c6 := (HI.out.2 6 (by decide)).1; have HI_c7 := (HI.out.2 7 (by decide)).1; have HI_c8 := (HI.out.2 8 (by decide)).1; have HI_c9 := (HI.out.2 9 (by decide)).1; have HI_c10 := (HI.out.2 10 (by decide)).1; have HI_c11 := (HI.out.2 11 (by decide)).1; have HI_z := HI.out.1
    go_wp2_with fail
    refine (CR.out _).mono ?_; rintro e w0 ⟨rfl, hb⟩; have hz := hb.size; (try simp only [World.size_alloc, World.heap_drewN, World.size_drew, World.size_setCell] at hz)
    have HB0 := Lib.hid (show Below w.heap.size w w0 from by have := HB.out; exact bel)
    have HI0 := Lib.hid (HI.out.below hb)
    have HZ0 := Lib.hid (HZ.out.below hb)
    clear hb
    clear HI_c0 HI_c1 HI_c2 HI_c3 HI_c4 HI_c5 HI_c6 HI_c7 HI_c8 HI_c9 HI_c10 HI_c11 HI_z
    clear HI HZ HB
    have hz1 := HZ0.out.1
    go_wp2_with fail
    refine (CA.out _ _).mono ?_; rintro e w1 ⟨rfl, hb⟩; have hz := hb.size; (try simp only [World.size_alloc, World.heap_drewN, World.size_drew, World.size_setCell] at hz)
    have HB1 := Lib.hid (show Below w.heap.size w w1 from by have := HB0.out; exact bel)
    have HI1 := Lib.hid (HI0.out.below hb)
    have HZ1 := Lib.hid (HZ0.out.below hb)
    clear hb HI0 HZ0 HB0
    go_wp2_with fail
    go_loopw [15] (fun k wr => ∃ K : Nat, K ≤ 9 ∧ k = .int .i64 K ∧ Ints wr w.heap.size 12 (stK (fun j => Tally.up (f j) (ms n (idx j))) f K) ∧ Ints wr (w.heap.size + 1) 12 (fun _ => 0) ∧ Below w.heap.size w wr) (fun k _ => 9 - (intOf k).toNat)
    case atStart =>
      refine ⟨0, by omega, rfl, ?_, HZ1.out, HB1.out⟩
      rw [stK_zero]
      exact HI1.out
    case round =>
      clear HI1 HZ1 HB1
      obtain ⟨K, hK, rfl, hI, hZ, hb⟩ := hrel
      have HB := Lib.hid hb
      have HI := Lib.hid hI
      have HZ := Lib.hid hZ
      clear hb hI hZ
      by_cases hlt : K < 9
      · have h1 : (K : Int) < 9 := by omega
        have ha := ages_index w.heap.size (ms n) hlt
        have HN := Lib.hid (stK_next (fun j => Tally.up (f j) (ms n (idx j))) f hlt)
        rw [idx_pl hlt] at HN
        have hp := pl_lt hlt
        have hm := ms_in h38 K
        have hat := stK_at (fun j => Tally.up (f j) (ms n (idx j))) f hlt
        generalize ms n K = x at *
        generalize pl K = q at *
        have hfq := HF.out q hp
        have CC := Lib.hid (fun w => up_any (f q) x (by omega) (by omega) w)
        generalize Tally.up (f q) x = y at *
        go_upto_region 6 with fail
        obtain ⟨c0, c1⟩ := two_new wr (.pointer (some ⟨w.heap.size, q, none⟩)) (.int .i64 x) 55
        have HI2 := Lib.hid (HI.out.alloc (.cells #[.pointer (some ⟨w.heap.size, q, none⟩), .int .i64 x] 55))
        have HZ2 := Lib.hid (HZ.out.alloc (.cells #[.pointer (some ⟨w.heap.size, q, none⟩), .int .i64 x] 55))
        have HB2 := Lib.hid (show Below w.heap.size w (wr.alloc (.cells #[.pointer (some ⟨w.heap.size, q, none⟩), .int .i64 x] 55)) from by have := HB.out; exact bel)
        generalize World.alloc wr _ = wa2 at *
        clear HI HZ HB
        obtain ⟨cq, fq⟩ := HI2.out.2 q hp
        rw [hat] at cq
        generalize f q = fv at *
        clear hat
        go_still_tail 10, (by kernel_rfl)
        repeat still_step
        still_call (Calls.back (CC.out _))
        repeat still_step
        refine wpStill_nil ?_
        change wpList _ _ _ _ _ wa2.drew
        go_wp2
        go_roundw
        case rel =>
          have := HB2.out
          exact ⟨K + 1, by omega, by go_num, (show Ints wa2.drew _ _ _ from HI2.out).set q y hp _ HN.out, (show Ints wa2.drew _ _ _ from HZ2.out).other _ _ _ (by omega), bel⟩
        case measure => simp [intOf]; omega
      · obtain rfl : K = 9 := by omega
        have E10 := Lib.hid (stK_end (fun j => Tally.up (f j) (ms n (idx j))) f 10)
        have E11 := Lib.hid (stK_end (fun j => Tally.up (f j) (ms n (idx j))) f 11)
        simp only [show ¬ (10 : Nat) < 8 by decide, show ¬ (10 : Nat) = 9 by decide, show ¬ (11 : Nat) < 8 by decide, show ¬ (11 : Nat) = 9 by decide, if_false] at E10 E11
        generalize stK (fun j => Tally.up (f j) (ms n (idx j))) f 9 = s at *
        obtain ⟨-, -, k8, k9, k10, k11⟩ := HOK.out
        have CD := Lib.hid (fun w => down_any (f 10) (by omega) w)
        have CN := Lib.hid (fun w => next_any n (f 11) (by omega) (by omega) (by omega) (by omega) w)
        clear k8 k9 k10 k11
        generalize Tally.down (f 10) = x10 at *
        generalize (f 11 + 1) % n = x11 at *
        have c10 : wr.cell? ⟨w.heap.size, 10, none⟩ = some (.int .i64 (f 10)) := by rw [← E10.out]; exact (HI.out.2 10 (by decide)).1
        have c11 : wr.cell? ⟨w.heap.size, 11, none⟩ = some (.int .i64 (f 11)) := by rw [← E11.out]; exact (HI.out.2 11 (by decide)).1
        have f10 := (HI.out.2 10 (by decide)).2
        have f11 := (HI.out.2 11 (by decide)).2
        have hz := HI.out.1
        go_wp2_with fail
        refine (CD.out _).mono ?_; rintro e w' ⟨rfl, rfl⟩
        go_wp2_with fail
        refine (CN.out _).mono ?_; rintro e w' ⟨rfl, rfl⟩
        go_upto_region 10 with fail
        generalize hw4 : World.setCell _ _ _ = w4
        have HI4 := Lib.hid (show Ints w4 w.heap.size 12 g from by
          rw [← hw4]
          refine ((HI.out.set 10 x10 (by decide) _ (fun j => rfl)).set 11 x11 (by decide) (fun j => if j = 11 then x11 else if j = 10 then x10 else s j) (fun j => rfl)).like (fun j hj => ?_)
          exact HE.out j hj)
        have HZ4 := Lib.hid (show Ints w4 (w.heap.size + 1) 12 (fun _ => 0) from by rw [← hw4]; exact (HZ.out.other _ _ _ (by omega)).other _ _ _ (by omega))
        have HB4 := Lib.hid (show Below w.heap.size w w4 from by have := HB.out; rw [← hw4]; exact bel)
        clear hw4 c10 f10 c11 f11 HI HZ HB
        have HI4_c0 := (HI4.out.2 0 (by decide)).1; have HI4_c1 := (HI4.out.2 1 (by decide)).1; have HI4_c2 := (HI4.out.2 2 (by decide)).1; have HI4_c3 := (HI4.out.2 3 (by decide)).1; have HI4_c4 := (HI4.out.2 4 (by decide)).1; have HI4_c5 := (HI4.out.2 5 (by decide)).1; have HI4_c6 := (HI4.out.2 6 (by decide)).1; have HI4_c7 := (HI4.out.2 7 (by decide)).1; have HI4_c8 := (HI4.out.2 8 (by decide)).1; have HI4_c9 := (HI4.out.2 9 (by decide)).1; have HI4_c10 := (HI4.out.2 10 (by decide)).1; have HI4_c11 := (HI4.out.2 11 (by decide)).1; have HI4_z := HI4.out.1
        have HZ4_r := HZ4.out.row12; have HZ4_c0 := (HZ4.out.2 0 (by decide)).1; have HZ4_f0 := (HZ4.out.2 0 (by decide)).2; have HZ4_c1 := (HZ4.out.2 1 (by decide)).1; have HZ4_f1 := (HZ4.out.2 1 (by decide)).2; have HZ4_c2 := (HZ4.out.2 2 (by decide)).1; have HZ4_f2 := (HZ4.out.2 2 (by decide)).2; have HZ4_c3 := (HZ4.out.2 3 (by decide)).1; have HZ4_f3 := (HZ4.out.2 3 (by decide)).2; have HZ4_c4 := (HZ4.out.2 4 (by decide)).1; have HZ4_f4 := (HZ4.out.2 4 (by decide)).2; have HZ4_c5 := (HZ4.out.2 5 (by decide)).1; have HZ4_f5 := (HZ4.out.2 5 (by decide)).2; have HZ4_c6 := (HZ4.out.2 6 (by decide)).1; have HZ4_f6 := (HZ4.out.2 6 (by decide)).2; have HZ4_c7 := (HZ4.out.2 7 (by decide)).1; have HZ4_f7 := (HZ4.out.2 7 (by decide)).2; have HZ4_c8 := (HZ4.out.2 8 (by decide)).1; have HZ4_f8 := (HZ4.out.2 8 (by decide)).2; have HZ4_c9 := (HZ4.out.2 9 (by decide)).1; have HZ4_f9 := (HZ4.out.2 9 (by decide)).2; have HZ4_c10 := (HZ4.out.2 10 (by decide)).1; have HZ4_f10 := (HZ4.out.2 10 (by decide)).2; have HZ4_c11 := (HZ4.out.2 11 (by decide)).1; have HZ4_f11 := (HZ4.out.2 11 (by decide)).2; have HZ4_z := HZ4.out.1
        have := HB4.out
        go_wp2
        refine bodyPost_ret (ret_cell_tmp Try.results18 (w.heap.size + 1) [.int .i64 ((g) 0), .int .i64 ((g) 1), .int .i64 ((g) 2), .int .i64 ((g) 3), .int .i64 ((g) 4), .int .i64 ((g) 5), .int .i64 ((g) 6), .int .i64 ((g) 7), .int .i64 ((g) 8), .int .i64 ((g) 9), .int .i64 ((g) 10), .int .i64 ((g) 11)] _ rfl rng Try.underlying24 rfl (by kernel_rfl)) rfl ⟨rfl, ?_⟩; exact bel
  · have h := Bool.eq_false_iff.2 h
    rw [tickErr_no h]
    rw [h] at CR
    simp only [tick_no h]
    go_enter Try.func18, Try.ntmps18
    go_wp2_with fail
    refine (CR.out _).mono ?_; rintro e w1 ⟨rfl, hb⟩; have hz := hb.size; (try simp only [World.size_alloc, World.heap_drewN, World.size_drew, World.size_setCell] at hz)
    have HB1 := Lib.hid (show Below w.heap.size w w1 from bel)
    have HZ := Lib.hid ((Ints.zeros (w.alloc (.cells #[.int .i64 (f 0), .int .i64 (f 1), .int .i64 (f 2), .int .i64 (f 3), .int .i64 (f 4), .int .i64 (f 5), .int .i64 (f 6), .int .i64 (f 7), .int .i64 (f 8), .int .i64 (f 9), .int .i64 (f 10), .int .i64 (f 11)] 24)) 24).below hb)
    rw [World.size_alloc] at HZ
    clear hb
    have HZ_r := HZ.out.row12; have HZ_c0 := (HZ.out.2 0 (by decide)).1; have HZ_f0 := (HZ.out.2 0 (by decide)).2; have HZ_c1 := (HZ.out.2 1 (by decide)).1; have HZ_f1 := (HZ.out.2 1 (by decide)).2; have HZ_c2 := (HZ.out.2 2 (by decide)).1; have HZ_f2 := (HZ.out.2 2 (by decide)).2; have HZ_c3 := (HZ.out.2 3 (by decide)).1; have HZ_f3 := (HZ.out.2 3 (by decide)).2; have HZ_c4 := (HZ.out.2 4 (by decide)).1; have HZ_f4 := (HZ.out.2 4 (by decide)).2; have HZ_c5 := (HZ.out.2 5 (by decide)).1; have HZ_f5 := (HZ.out.2 5 (by decide)).2; have HZ_c6 := (HZ.out.2 6 (by decide)).1; have HZ_f6 := (HZ.out.2 6 (by decide)).2; have HZ_c7 := (HZ.out.2 7 (by decide)).1; have HZ_f7 := (HZ.out.2 7 (by decide)).2; have HZ_c8 := (HZ.out.2 8 (by decide)).1; have HZ_f8 := (HZ.out.2 8 (by decide)).2; have HZ_c9 := (HZ.out.2 9 (by decide)).1; have HZ_f9 := (HZ.out.2 9 (by decide)).2; have HZ_c10 := (HZ.out.2 10 (by decide)).1; have HZ_f10 := (HZ.out.2 10 (by decide)).2; have HZ_c11 := (HZ.out.2 11 (by decide)).1; have HZ_f11 := (HZ.out.2 11 (by decide)).2; have HZ_z := HZ.out.1
    have := HB1.out
    go_wp2
    refine bodyPost_ret (ret_cell_tmp Try.results18 (w.heap.size + 1) [.int .i64 ((fun _ => 0) 0), .int .i64 ((fun _ => 0) 1), .int .i64 ((fun _ => 0) 2), .int .i64 ((fun _ => 0) 3), .int .i64 ((fun _ => 0) 4), .int .i64 ((fun _ => 0) 5), .int .i64 ((fun _ => 0) 6), .int .i64 ((fun _ => 0) 7), .int .i64 ((fun _ => 0) 8), .int .i64 ((fun _ => 0) 9), .int .i64 ((fun _ => 0) 10), .int .i64 ((fun _ => 0) 11)] _ rfl rng Try.underlying24 rfl (by kernel_rfl)) rfl ⟨rfl, ?_⟩; exact bel
end Go.Proofs.Ytkdmmomfolhfbaa
namespace Go.Proofs.Ytkdmmomfolhfbaa
set_option linter.unusedVariables false
set_option linter.unusedSimpArgs false
open Go.ChangeShapes Go.WideShapes Go.RowKit

theorem at_val (n p a x : Int) (h : (p + a) % n = x) (h1 : 1 ≤ n) (h2 : n ≤ 1000000) (p0 : 0 ≤ p) (p1 : p < n) (a0 : 0 ≤ a) (a1 : a ≤ 1099511627776) (w : World) :
    Calls Try.prog 62 #[.int .i64 n, .int .i64 p, .int .i64 a] w fun e w' => e = .returned (.int .i64 x) ∧ w = w' := by
  rw [← h]
  exact at_any n p a h1 h2 p0 p1 a0 a1 w
set_option maxHeartbeats 2000000 in
theorem byInfo_any (m : Nat) (f : Nat → Int) (p : Nat) (v : Int) (w : World) (h : Vote.Ok m f) (hp : p < m) :
    Calls Try.prog 58 #[.int .i64 m, .agg #[.int .i64 (f 0), .int .i64 (f 1), .int .i64 (f 2), .int .i64 (f 3), .int .i64 (f 4), .int .i64 (f 5), .int .i64 (f 6), .int .i64 (f 7), .int .i64 (f 8), .int .i64 (f 9), .int .i64 (f 10), .int .i64 (f 11)], .int .i64 p, .int .i64 v] w fun e w' => e = .returned (.bool (Vote.said m f v p)) ∧ Below w.heap.size w w' := by
  obtain ⟨h38, hA, -, k9, -, -⟩ := h
  have hap := hA p (by omega)
  rw [Vote.most_yes (by omega)] at hap
  have HV : Hid (Vote.said m f v p = (decide (f p < m) && (((p : Int) + f p) % m == v))) := rfl
  generalize hx : ((p : Int) + f p) % (m : Int) = x at *
  have CX := Lib.hid (fun w => at_val m p (f p) x hx (by omega) (by omega) (by omega) (by omega) (by omega) (by omega) w)
  have h1 : (p : Int) < m := by omega
  have h8 : (p : Int) < 8 := by omega
  have h0 : (0 : Int) ≤ p := by omega
  generalize Vote.said m f v p = r at *
  clear hA hx k9
  go_enter Try.func58, Try.ntmps58
  go_upto_region 1 with fail
  have HI := Lib.hid (Ints.box w f 24)
  have HB := Lib.hid (show Below w.heap.size w (w.alloc (.cells #[.int .i64 (f 0), .int .i64 (f 1), .int .i64 (f 2), .int .i64 (f 3), .int .i64 (f 4), .int .i64 (f 5), .int .i64 (f 6), .int .i64 (f 7), .int .i64 (f 8), .int .i64 (f 9), .int .i64 (f 10), .int .i64 (f 11)] 24)) from bel)
  generalize w.alloc _ = w1 at *
  have cp := (HI.out.2 p (by omega)).1
  have hz := HI.out.1
  by_cases q1 : f p < (m : Int)
  · cases q2 : (x == v)
    all_goals
      go_wp2_with fail
      refine (CX.out _).mono ?_; rintro e w' ⟨rfl, rfl⟩
      have := HB.out
      go_wp2
      go_ret
      exact ⟨by rw [HV.out]; simp [q1, q2], bel⟩
  · have := HB.out
    go_wp2
    go_ret
    exact ⟨by rw [HV.out, decide_eq_false (Int.not_lt.2 q1)]; rfl, bel⟩
set_option maxHeartbeats 2000000 in
theorem byCs_any (m : Nat) (f : Nat → Int) (p : Nat) (v : Int) (w : World) (h : Vote.Ok m f) (hp : p < m) :
    Calls Try.prog 59 #[.int .i64 m, .agg #[.int .i64 (f 0), .int .i64 (f 1), .int .i64 (f 2), .int .i64 (f 3), .int .i64 (f 4), .int .i64 (f 5), .int .i64 (f 6), .int .i64 (f 7), .int .i64 (f 8), .int .i64 (f 9), .int .i64 (f 10), .int .i64 (f 11)], .int .i64 p, .int .i64 v] w fun e w' => e = .returned (.bool (Vote.held m f v p)) ∧ Below w.heap.size w w' := by
  obtain ⟨h38, hA, -, k9, -, -⟩ := h
  have CB := Lib.hid (fun w => block_val m _ (Conf.tm_yes (Conf.right_spec.2 h38)) w)
  have HV : Hid (Vote.held m f v p = (((p : Int) == f 8) && decide (f 9 < 2 * m) && (((p : Int) + f 9) % m == v))) := rfl
  generalize hy : ((p : Int) + f 9) % (m : Int) = y at *
  have CY := Lib.hid (fun w => at_val m p (f 9) y hy (by omega) (by omega) (by omega) (by omega) (by omega) (by omega) w)
  generalize Vote.held m f v p = r at *
  clear hA hy k9
  go_enter Try.func59, Try.ntmps59
  go_upto_region 1 with fail
  have HI := Lib.hid (Ints.box w f 24)
  have HB := Lib.hid (show Below w.heap.size w (w.alloc (.cells #[.int .i64 (f 0), .int .i64 (f 1), .int .i64 (f 2), .int .i64 (f 3), .int .i64 (f 4), .int .i64 (f 5), .int .i64 (f 6), .int .i64 (f 7), .int .i64 (f 8), .int .i64 (f 9), .int .i64 (f 10), .int .i64 (f 11)] 24)) from bel)
  generalize w.alloc _ = w1 at *
  have c8 := (HI.out.2 8 (by decide)).1
  have c9 := (HI.out.2 9 (by decide)).1
  have hz := HI.out.1
  cases q3 : ((p : Int) == f 8)
  all_goals
    cases q4 : (decide (f 9 < 2 * (m : Int)))
    all_goals
      cases q5 : (y == v)
      all_goals
        refine region_below (by kernel_rfl) (by kernel_rfl) ?_; intro wR HW
        have HBR := Lib.hid (show Below w.heap.size w wR from by have := HB.out; rw [← HW.out]; exact bel)
        rw [HW.out] at c8 c9
        replace c8 := cell_regrown c8
        replace c9 := cell_regrown c9
        (repeat (first | go_big_quiet_step (first | with_reducible exact Calls.regrown_of (CB.out _) | with_reducible exact Calls.regrown_of (Calls.same_below (Calls.back (CY.out _)))) | quiet_step (first | with_reducible exact Calls.regrown_of (CB.out _) | with_reducible exact Calls.regrown_of (Calls.same_below (Calls.back (CY.out _)))))); refine wpQuiet_nil ?_; intro w2 hb2
        have HB2 := Lib.hid (show Below w.heap.size w w2 from by have := HBR.out; exact bthru hb2 this)
        clear hb2
        have := HB2.out
        go_wp2
        go_ret
        exact ⟨by rw [HV.out]; simp [q3, q4, q5], bel⟩
set_option maxHeartbeats 2000000 in
theorem count_any (m : Nat) (f : Nat → Int) (v : Int) (w : World) (h : Vote.Ok m f) :
    Calls Try.prog 52 #[.int .i64 m, .agg #[.int .i64 (f 0), .int .i64 (f 1), .int .i64 (f 2), .int .i64 (f 3), .int .i64 (f 4), .int .i64 (f 5), .int .i64 (f 6), .int .i64 (f 7), .int .i64 (f 8), .int .i64 (f 9), .int .i64 (f 10), .int .i64 (f 11)], .int .i64 v] w fun e w' => e = .returned (.int .i64 (Vote.cnt m f v m : Nat)) ∧ Below w.heap.size w w' := by
  have h38 := h.1
  have HOK := Lib.hid h
  clear h
  go_enter Try.func52, Try.ntmps52
  go_wp2_with fail
  have HI := Lib.hid (Ints.box w f 24)
  go_loopw [7, 10] (fun q k wr => ∃ K : Nat, K ≤ m ∧ k = .int .i64 K ∧ q = .int .i64 (Vote.cnt m f v K : Nat) ∧ Ints wr w.heap.size 12 f ∧ Below w.heap.size w wr) (fun _ k _ => m - (intOf k).toNat)
  case atStart => exact ⟨0, by omega, rfl, rfl, HI.out, bel⟩
  case round =>
    clear HI
    obtain ⟨K, hK, rfl, rfl, hI, hb⟩ := hrel
    have HB := Lib.hid hb
    have HI := Lib.hid hI
    clear hb hI
    by_cases hlt : K < m
    · have h1 : (K : Int) < m := by omega
      have h0 : (0 : Int) ≤ K := by omega
      have HN := Lib.hid (cnt_next m f v K)
      have HV := Lib.hid (show Vote.vt m f v K = (Vote.said m f v K || Vote.held m f v K) from rfl)
      have hc := Vote.cnt_le m f v K
      have CI := Lib.hid (fun w => byInfo_any m f K v w HOK.out hlt)
      have CC := Lib.hid (fun w => byCs_any m f K v w HOK.out hlt)
      generalize Vote.said m f v K = b1 at *
      generalize Vote.held m f v K = b2 at *
      generalize Vote.vt m f v K = b at *
      have HI_c0 := (HI.out.2 0 (by decide)).1; have HI_c1 := (HI.out.2 1 (by decide)).1; have HI_c2 := (HI.out.2 2 (by decide)).1; have HI_c3 := (HI.out.2 3 (by decide)).1; have HI_c4 := (HI.out.2 4 (by decide)).1; have HI_c5 := (HI.out.2 5 (by decide)).1; have HI_c6 := (HI.out.2 6 (by decide)).1; have HI_c7 := (HI.out.2 7 (by decide)).1; have HI_c8 := (HI.out.2 8 (by decide)).1; have HI_c9 := (HI.out.2 9 (by decide)).1; have HI_c10 := (HI.out.2 10 (by decide)).1; have HI_c11 := (HI.out.2 11 (by decide)).1; have HI_z := HI.out.1
      go_wp2_with fail
      refine (CI.out _).mono ?_; rintro e w1 ⟨rfl, hb⟩; have hz := hb.size; (try simp only [World.size_alloc, World.heap_drewN, World.size_drew, World.size_setCell] at hz)
      have HB1 := Lib.hid (show Below w.heap.size w w1 from by have := HB.out; exact bel)
      have HI1 := Lib.hid (HI.out.below hb)
      clear hb
      clear HI_c0 HI_c1 HI_c2 HI_c3 HI_c4 HI_c5 HI_c6 HI_c7 HI_c8 HI_c9 HI_c10 HI_c11 HI_z
      clear HI HB
      cases b1
      · have HI1_c0 := (HI1.out.2 0 (by decide)).1; have HI1_c1 := (HI1.out.2 1 (by decide)).1; have HI1_c2 := (HI1.out.2 2 (by decide)).1; have HI1_c3 := (HI1.out.2 3 (by decide)).1; have HI1_c4 := (HI1.out.2 4 (by decide)).1; have HI1_c5 := (HI1.out.2 5 (by decide)).1; have HI1_c6 := (HI1.out.2 6 (by decide)).1; have HI1_c7 := (HI1.out.2 7 (by decide)).1; have HI1_c8 := (HI1.out.2 8 (by decide)).1; have HI1_c9 := (HI1.out.2 9 (by decide)).1; have HI1_c10 := (HI1.out.2 10 (by decide)).1; have HI1_c11 := (HI1.out.2 11 (by decide)).1; have HI1_z := HI1.out.1
        go_wp2_with fail
        refine (CC.out _).mono ?_; rintro e w2 ⟨rfl, hb⟩; have hz := hb.size; (try simp only [World.size_alloc, World.heap_drewN, World.size_drew, World.size_setCell] at hz)
        have HB2 := Lib.hid (show Below w.heap.size w w2 from by have := HB1.out; exact bel)
        have HI2 := Lib.hid (HI1.out.below hb)
        clear hb
        clear HI1_c0 HI1_c1 HI1_c2 HI1_c3 HI1_c4 HI1_c5 HI1_c6 HI1_c7 HI1_c8 HI1_c9 HI1_c10 HI1_c11 HI1_z
        clear HI1 HB1
        cases b2
        · go_wp2
          go_roundw
          case rel => exact ⟨K + 1, by omega, by go_num, by rw [HN.out, HV.out]; rfl, HI2.out, HB2.out⟩
          case measure => simp [intOf]; omega
        · go_wp2
          go_roundw
          case rel => exact ⟨K + 1, by omega, by go_num, by rw [HN.out, HV.out]; simp, HI2.out, HB2.out⟩
          case measure => simp [intOf]; omega
      · go_wp2
        go_roundw
        case rel => exact ⟨K + 1, by omega, by go_num, by rw [HN.out, HV.out]; simp, HI1.out, HB1.out⟩
        case measure => simp [intOf]; omega
    · obtain rfl : K = m := by omega
      have := HB.out
      go_wp2
      go_ret
      exact ⟨rfl, bel⟩
set_option maxHeartbeats 2000000 in
theorem vVotes_any (n : Int) (f : Nat → Int) (v : Int) (w : World) (hf : Bd12 f) :
    Calls Try.prog 36 #[.int .i64 n, .agg #[.int .i64 (f 0), .int .i64 (f 1), .int .i64 (f 2), .int .i64 (f 3), .int .i64 (f 4), .int .i64 (f 5), .int .i64 (f 6), .int .i64 (f 7), .int .i64 (f 8), .int .i64 (f 9), .int .i64 (f 10), .int .i64 (f 11)], .int .i64 v] w fun e w' => e = .returned (.int .i64 (Vote.votes n f v : Nat)) ∧ Below w.heap.size w w' := by
  have CR := Lib.hid (fun w => vRight_any n f w hf)
  by_cases h : Vote.ok n f = true
  · have hok := Vote.ok_iff.1 h
    have h38 := hok.1
    obtain ⟨m, rfl⟩ := Int.eq_ofNat_of_zero_le (show 0 ≤ n by omega)
    rw [votes_yes h v]
    rw [h] at CR
    have CC := Lib.hid (fun w => count_any m f v w hok)
    generalize Vote.cnt m f v m = r at *
    clear h hok hf
    go_enter Try.func36, Try.ntmps36
    go_upto_region 1 with fail
    have HI := Lib.hid (Ints.box w f 24)
    go_wp2_with fail
    refine (CR.out _).mono ?_; rintro e w1 ⟨rfl, hb⟩; have hz := hb.size; (try simp only [World.size_alloc, World.heap_drewN, World.size_drew, World.size_setCell] at hz)
    have HB1 := Lib.hid (show Below w.heap.size w w1 from bel)
    have HI1 := Lib.hid (HI.out.below hb)
    clear hb HI
    have HI1_c0 := (HI1.out.2 0 (by decide)).1; have HI1_c1 := (HI1.out.2 1 (by decide)).1; have HI1_c2 := (HI1.out.2 2 (by decide)).1; have HI1_c3 := (HI1.out.2 3 (by decide)).1; have HI1_c4 := (HI1.out.2 4 (by decide)).1; have HI1_c5 := (HI1.out.2 5 (by decide)).1; have HI1_c6 := (HI1.out.2 6 (by decide)).1; have HI1_c7 := (HI1.out.2 7 (by decide)).1; have HI1_c8 := (HI1.out.2 8 (by decide)).1; have HI1_c9 := (HI1.out.2 9 (by decide)).1; have HI1_c10 := (HI1.out.2 10 (by decide)).1; have HI1_c11 := (HI1.out.2 11 (by decide)).1; have HI1_z := HI1.out.1
    go_wp2_with fail
    refine (CC.out _).mono ?_; rintro e w2 ⟨rfl, hb⟩; have hz := hb.size; (try simp only [World.size_alloc, World.heap_drewN, World.size_drew, World.size_setCell] at hz)
    have := HB1.out
    go_wp2
    go_ret
    exact ⟨rfl, bel⟩
  · have h := Bool.eq_false_iff.2 h
    rw [votes_no h]
    rw [h] at CR
    go_enter Try.func36, Try.ntmps36
    go_wp2_with fail
    refine (CR.out _).mono ?_; rintro e w1 ⟨rfl, hb⟩; have hz := hb.size; (try simp only [World.size_alloc, World.heap_drewN, World.size_drew, World.size_setCell] at hz)
    go_wp2
    go_ret
    exact ⟨rfl, bel⟩
/-- How many votes the best of the first 'K' slots has; none has none. -/
def bv (n : Int) (f : Nat → Int) (K : Nat) : Nat := if K = 0 then 0 else Vote.votes n f (Vote.bestK n f K : Nat)
theorem bv_more {n : Int} {f : Nat → Int} {K : Nat} (h : bv n f K < Vote.votes n f (K : Nat)) : Vote.bestK n f (K + 1) = K ∧ bv n f (K + 1) = Vote.votes n f (K : Nat) := by
  have e : Vote.bestK n f (K + 1) = K := by
    rw [bestK_next]
    by_cases e : K = 0
    · subst e; split <;> rfl
    · unfold bv at h; rw [if_neg e] at h; rw [if_pos h]
  refine ⟨e, ?_⟩
  unfold bv
  rw [if_neg (by omega), e]
theorem bv_less {n : Int} {f : Nat → Int} {K : Nat} (h : ¬ bv n f K < Vote.votes n f (K : Nat)) : Vote.bestK n f (K + 1) = Vote.bestK n f K ∧ bv n f (K + 1) = bv n f K := by
  by_cases e : K = 0
  · subst e
    have e1 : Vote.bestK n f (0 + 1) = Vote.bestK n f 0 := by rw [bestK_next]; split <;> rfl
    refine ⟨e1, ?_⟩
    unfold bv at h ⊢
    rw [if_pos rfl] at h ⊢
    rw [if_neg (by omega), e1]
    show Vote.votes n f (0 : Nat) = 0
    omega
  · have e1 : Vote.bestK n f (K + 1) = Vote.bestK n f K := by
      unfold bv at h; rw [if_neg e] at h
      rw [bestK_next, if_neg h]
    refine ⟨e1, ?_⟩
    unfold bv
    rw [if_neg (by omega), if_neg e, e1]
set_option maxHeartbeats 2000000 in
theorem vBest_any (n : Int) (f : Nat → Int) (w : World) (hf : Bd12 f) :
    Calls Try.prog 37 #[.int .i64 n, .agg #[.int .i64 (f 0), .int .i64 (f 1), .int .i64 (f 2), .int .i64 (f 3), .int .i64 (f 4), .int .i64 (f 5), .int .i64 (f 6), .int .i64 (f 7), .int .i64 (f 8), .int .i64 (f 9), .int .i64 (f 10), .int .i64 (f 11)]] w fun e w' => e = .returned (.tuple #[.int .i64 (Vote.best n f : Nat), .int .i64 (Vote.bestVotes n f : Nat)]) ∧ Below w.heap.size w w' := by
  have CR := Lib.hid (fun w => vRight_any n f w hf)
  by_cases h : Vote.ok n f = true
  · have hok := Vote.ok_iff.1 h
    have h38 := hok.1
    obtain ⟨m, rfl⟩ := Int.eq_ofNat_of_zero_le (show 0 ≤ n by omega)
    rw [(best_yes h).1, (best_yes h).2]
    rw [h] at CR
    have HO := Lib.hid hok
    have HV := Lib.hid (fun v => votes_yes h v)
    clear h hok hf
    go_enter Try.func37, Try.ntmps37
    go_upto_region 2 with fail
    have HI := Lib.hid (Ints.box w f 24)
    go_wp2_with fail
    refine (CR.out _).mono ?_; rintro e w1 ⟨rfl, hb⟩; have hz := hb.size; (try simp only [World.size_alloc, World.heap_drewN, World.size_drew, World.size_setCell] at hz)
    have HB1 := Lib.hid (show Below w.heap.size w w1 from bel)
    have HI1 := Lib.hid (HI.out.below hb)
    clear hb HI
    go_wp2_with fail
    go_loopw [6, 7, 17] (fun z y k wr => ∃ K : Nat, K ≤ m ∧ k = .int .i64 K ∧ z = .int .i64 (Vote.bestK m f K : Nat) ∧ y = .int .i64 (bv m f K : Nat) ∧ Ints wr w.heap.size 12 f ∧ Below w.heap.size w wr) (fun _ _ k _ => m - (intOf k).toNat)
    case atStart => exact ⟨0, by omega, rfl, rfl, rfl, HI1.out, HB1.out⟩
    case round =>
      clear HI1 HB1
      obtain ⟨K, hK, rfl, rfl, rfl, hI, hb⟩ := hrel
      have HB := Lib.hid hb
      have HI := Lib.hid hI
      clear hb hI
      have hbk := Vote.bestK_le m f K
      by_cases hlt : K < m
      · have h1 : (K : Int) < m := by omega
        have h0 : (0 : Int) ≤ K := by omega
        have HM := Lib.hid (bv_more (n := (m : Int)) (f := f) (K := K))
        have HL := Lib.hid (bv_less (n := (m : Int)) (f := f) (K := K))
        have CC := Lib.hid (fun w => count_any m f (K : Nat) w HO.out)
        rw [show Vote.cnt m f (K : Nat) m = Vote.votes m f (K : Nat) from (HV.out _).symm] at CC
        generalize Vote.votes m f (K : Nat) = x at *
        generalize bv m f K = y at *
        generalize Vote.bestK m f K = z at *
        have HI_c0 := (HI.out.2 0 (by decide)).1; have HI_c1 := (HI.out.2 1 (by decide)).1; have HI_c2 := (HI.out.2 2 (by decide)).1; have HI_c3 := (HI.out.2 3 (by decide)).1; have HI_c4 := (HI.out.2 4 (by decide)).1; have HI_c5 := (HI.out.2 5 (by decide)).1; have HI_c6 := (HI.out.2 6 (by decide)).1; have HI_c7 := (HI.out.2 7 (by decide)).1; have HI_c8 := (HI.out.2 8 (by decide)).1; have HI_c9 := (HI.out.2 9 (by decide)).1; have HI_c10 := (HI.out.2 10 (by decide)).1; have HI_c11 := (HI.out.2 11 (by decide)).1; have HI_z := HI.out.1
        go_wp2_with fail
        refine (CC.out _).mono ?_; rintro e w2 ⟨rfl, hb⟩; have hz := hb.size; (try simp only [World.size_alloc, World.heap_drewN, World.size_drew, World.size_setCell] at hz)
        have HB2 := Lib.hid (show Below w.heap.size w w2 from by have := HB.out; exact bel)
        have HI2 := Lib.hid (HI.out.below hb)
        clear hb
        clear HI_c0 HI_c1 HI_c2 HI_c3 HI_c4 HI_c5 HI_c6 HI_c7 HI_c8 HI_c9 HI_c10 HI_c11 HI_z
        clear HI HB
        by_cases hxy : (y : Int) < x
        · go_wp2
          go_roundw
          case rel => exact ⟨K + 1, by omega, by go_num, by rw [(HM.out (by omega)).1], by rw [(HM.out (by omega)).2], HI2.out, HB2.out⟩
          case measure => simp [intOf]; omega
        · go_wp2
          go_roundw
          case rel => exact ⟨K + 1, by omega, by go_num, by rw [(HL.out (by omega)).1], by rw [(HL.out (by omega)).2], HI2.out, HB2.out⟩
          case measure => simp [intOf]; omega
      · obtain rfl : K = m := by omega
        have e : bv K f K = Vote.votes K f (Vote.bestK K f K : Nat) := if_neg (by omega)
        rw [e]
        have := HB.out
        go_wp2
        go_ret2
        exact ⟨rfl, bel⟩
  · have h := Bool.eq_false_iff.2 h
    rw [(best_no h).1, (best_no h).2]
    rw [h] at CR
    go_enter Try.func37, Try.ntmps37
    go_wp2_with fail
    refine (CR.out _).mono ?_; rintro e w1 ⟨rfl, hb⟩; have hz := hb.size; (try simp only [World.size_alloc, World.heap_drewN, World.size_drew, World.size_setCell] at hz)
    go_wp2
    go_ret2
    exact ⟨rfl, bel⟩
end Go.Proofs.Ytkdmmomfolhfbaa
