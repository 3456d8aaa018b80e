
import Derived.Test.YtijgabippedhpaaRows
import Derived.Test.YtijgabippedhpaaVoteI
import Derived.Test.YtijgabippedhpaaTail
import Derived.Test.YtijgabippedhpaaVls
/-
  The places of all that tells how long ago something was, and the most that may stand there: an array of pointers into a hub, and numbers.
-/
namespace Go.Proofs.Ytijgabippedhpaa
set_option linter.unusedVariables false
set_option linter.unusedSimpArgs false
open Go.ChangeShapes Go.WideShapes Go.RowKit

/-- Where the 'K'th of them stands in a hub. -/
def pl (K : Nat) : Nat := if K = 8 then 9 else K
/-- The most that it may be. -/
def ms (n : Int) (K : Nat) : Int := if K = 8 then 2 * n + 1 else Vote.most n K
/-- The cells, when the first 'K' ages of ports are written. -/
def agK (b : Nat) (n : Int) (K j : Nat) : Value := if j < 2 * K then (if j % 2 = 0 then .pointer (some ⟨b, j / 2, none⟩) else .int .i64 (Vote.most n (j / 2))) else if j % 2 = 0 then .pointer none else .int .i64 0
theorem agK_next (b : Nat) (n : Int) (K j : Nat) : agK b n (K + 1) j = if j = K * 2 + 1 then .int .i64 (Vote.most n K) else if j = K * 2 then .pointer (some ⟨b, K, none⟩) else agK b n K j := by
  unfold agK
  by_cases e : j = K * 2 + 1
  · rw [if_pos e, if_pos (by omega), if_neg (by omega), show j / 2 = K by omega]
  · rw [if_neg e]
    by_cases e2 : j = K * 2
    · rw [if_pos e2, if_pos (by omega), if_pos (by omega), show j / 2 = K by omega]
    · rw [if_neg e2]
      by_cases e3 : j < 2 * K
      · rw [if_pos (show j < 2 * (K + 1) by omega), if_pos e3]
      · rw [if_neg (show ¬ j < 2 * (K + 1) by omega), if_neg e3]
theorem agK_zero (b : Nat) (n : Int) (K : Nat) : agK b n K (K * 2 + 1) = .int .i64 0 := by
  unfold agK; rw [if_neg (by omega), if_neg (by omega)]
theorem eighteen {j : Nat} (h : j < 18) : j = 0 ∨ j = 1 ∨ j = 2 ∨ j = 3 ∨ j = 4 ∨ j = 5 ∨ j = 6 ∨ j = 7 ∨ j = 8 ∨ j = 9 ∨ j = 10 ∨ j = 11 ∨ j = 12 ∨ j = 13 ∨ j = 14 ∨ j = 15 ∨ j = 16 ∨ j = 17 := by omega
theorem Vls.nils (w : World) (b : Nat) (n : Int) (t : TypeId) : Vls (w.alloc (.cells #[.pointer none, .int .i64 0, .pointer none, .int .i64 0, .pointer none, .int .i64 0, .pointer none, .int .i64 0, .pointer none, .int .i64 0, .pointer none, .int .i64 0, .pointer none, .int .i64 0, .pointer none, .int .i64 0, .pointer none, .int .i64 0] t)) w.heap.size 18 (agK b n 0) := by
  refine ⟨by simp, fun j hj => ⟨?_, World.frozen?_alloc_at _ t _ j rfl⟩⟩
  refine range_cell (range_new w #[.pointer none, .int .i64 0, .pointer none, .int .i64 0, .pointer none, .int .i64 0, .pointer none, .int .i64 0, .pointer none, .int .i64 0, .pointer none, .int .i64 0, .pointer none, .int .i64 0, .pointer none, .int .i64 0, .pointer none, .int .i64 0] t) j ?_
  rcases eighteen hj with rfl | rfl | rfl | rfl | rfl | rfl | rfl | rfl | rfl | rfl | rfl | rfl | rfl | rfl | rfl | rfl | rfl | rfl <;> rfl
/-- All of them. -/
def ag18 (b : Nat) (m : Nat → Int) (j : Nat) : Value := if j % 2 = 0 then .pointer (some ⟨b, pl (j / 2), none⟩) else .int .i64 (m (j / 2))
theorem Vls.row18 {w : World} {c b : Nat} {m : Nat → Int} (h : Vls w c 18 (ag18 b m)) : w.rangeAt c 0 [.pointer (some ⟨b, 0, none⟩), .int .i64 (m 0), .pointer (some ⟨b, 1, none⟩), .int .i64 (m 1), .pointer (some ⟨b, 2, none⟩), .int .i64 (m 2), .pointer (some ⟨b, 3, none⟩), .int .i64 (m 3), .pointer (some ⟨b, 4, none⟩), .int .i64 (m 4), .pointer (some ⟨b, 5, none⟩), .int .i64 (m 5), .pointer (some ⟨b, 6, none⟩), .int .i64 (m 6), .pointer (some ⟨b, 7, none⟩), .int .i64 (m 7), .pointer (some ⟨b, 9, none⟩), .int .i64 (m 8)] := by
  intro j v hj
  have hj2 : j < 18 := by
    have := (List.getElem?_eq_some_iff.1 hj).1
    simpa using this
  have e := (h.2 j hj2).1
  rw [Nat.zero_add]
  rw [e]
  rcases eighteen hj2 with rfl | rfl | rfl | rfl | rfl | rfl | rfl | rfl | rfl | rfl | rfl | rfl | rfl | rfl | rfl | rfl | rfl | rfl <;> exact hj
/-- One of them, taken out of the array. -/
theorem ages_index (b : Nat) (m : Nat → Int) {K : Nat} (hK : K < 9) (w : World) : (Instr.index 59 (.agg #[.pointer (some ⟨b, 0, none⟩), .int .i64 (m 0), .pointer (some ⟨b, 1, none⟩), .int .i64 (m 1), .pointer (some ⟨b, 2, none⟩), .int .i64 (m 2), .pointer (some ⟨b, 3, none⟩), .int .i64 (m 3), .pointer (some ⟨b, 4, none⟩), .int .i64 (m 4), .pointer (some ⟨b, 5, none⟩), .int .i64 (m 5), .pointer (some ⟨b, 6, none⟩), .int .i64 (m 6), .pointer (some ⟨b, 7, none⟩), .int .i64 (m 7), .pointer (some ⟨b, 9, none⟩), .int .i64 (m 8)]) (.int .i64 K)).run Try.prog w = .ok (.agg #[.pointer (some ⟨b, pl K, none⟩), .int .i64 (m K)]) w := by
  have h9 : K = 0 ∨ K = 1 ∨ K = 2 ∨ K = 3 ∨ K = 4 ∨ K = 5 ∨ K = 6 ∨ K = 7 ∨ K = 8 := by omega
  rcases h9 with rfl | rfl | rfl | rfl | rfl | rfl | rfl | rfl | rfl <;> rfl
theorem Ints.there {w : World} {b n : Nat} {f : Nat → Int} (h : Ints w b n f) : w.there b 0 n := fun j hj => by
  have := h.2 j hj
  rw [Nat.zero_add]
  exact ⟨by rw [this.1]; rfl, this.2⟩
theorem one18 (b : Nat) (m : Nat → Int) : (#[.pointer (some ⟨b, 0, none⟩), .int .i64 (m 0), .pointer (some ⟨b, 1, none⟩), .int .i64 (m 1), .pointer (some ⟨b, 2, none⟩), .int .i64 (m 2), .pointer (some ⟨b, 3, none⟩), .int .i64 (m 3), .pointer (some ⟨b, 4, none⟩), .int .i64 (m 4), .pointer (some ⟨b, 5, none⟩), .int .i64 (m 5), .pointer (some ⟨b, 6, none⟩), .int .i64 (m 6), .pointer (some ⟨b, 7, none⟩), .int .i64 (m 7), .pointer (some ⟨b, 9, none⟩), .int .i64 (m 8)] : Array Value).all (·.oneCell') = true := by simp [Value.oneCell']
theorem one12 (f : Nat → Int) : (#[.int .i64 (f 0), .int .i64 (f 1), .int .i64 (f 2), .int .i64 (f 3), .int .i64 (f 4), .int .i64 (f 5), .int .i64 (f 6), .int .i64 (f 7), .int .i64 (f 8), .int .i64 (f 9), .int .i64 (f 10), .int .i64 (f 11)] : Array Value).all (·.oneCell') = true := by simp [Value.oneCell']
theorem Ints.setCells {w : World} {c : Nat} {g : Nat → Int} (h : Ints w c 12 g) (f : Nat → Int) : Ints (w.setCells c 0 [.int .i64 (f 0), .int .i64 (f 1), .int .i64 (f 2), .int .i64 (f 3), .int .i64 (f 4), .int .i64 (f 5), .int .i64 (f 6), .int .i64 (f 7), .int .i64 (f 8), .int .i64 (f 9), .int .i64 (f 10), .int .i64 (f 11)]) c 12 f := h.set12 f
theorem block_val (n x : Int) (h : Conf.tm n 2 = x) (w : World) :
    Calls Try.prog 26 #[.int .i64 n] w fun e w' => e = .returned (.int .i64 x) ∧ Below w.heap.size w w' := by
  rw [← h]
  exact cBlock_any n w
theorem Calls.back' {P : Program} {f : FuncId} {args : Array Value} {w : World} {v : Value} (h : Calls P f args w fun e w' => e = .returned v ∧ w' = w) : Calls P f args w fun e w' => e = .returned v ∧ w = w' :=
  h.mono fun _ _ ⟨h1, h2⟩ => ⟨h1, h2.symm⟩
theorem Calls.same_below {P : Program} {f : FuncId} {args : Array Value} {w : World} {v : Value} (h : Calls P f args w fun e w' => e = .returned v ∧ w' = w) : Calls P f args w fun e w' => e = .returned v ∧ Below w.heap.size w w' :=
  h.mono fun _ _ ⟨h1, h2⟩ => ⟨h1, by rw [h2]; exact Below.refl _ w⟩
set_option maxHeartbeats 2000000 in
theorem ages_any (n : Int) (b : Nat) (w : World) (h : Conf.right n = true) :
    Calls Try.prog 41 #[.int .i64 n, .pointer (some ⟨b, 0, none⟩)] w fun e w' => e = .returned (.agg #[.pointer (some ⟨b, 0, none⟩), .int .i64 (ms n 0), .pointer (some ⟨b, 1, none⟩), .int .i64 (ms n 1), .pointer (some ⟨b, 2, none⟩), .int .i64 (ms n 2), .pointer (some ⟨b, 3, none⟩), .int .i64 (ms n 3), .pointer (some ⟨b, 4, none⟩), .int .i64 (ms n 4), .pointer (some ⟨b, 5, none⟩), .int .i64 (ms n 5), .pointer (some ⟨b, 6, none⟩), .int .i64 (ms n 6), .pointer (some ⟨b, 7, none⟩), .int .i64 (ms n 7), .pointer (some ⟨b, 9, none⟩), .int .i64 (ms n 8)]) ∧ Below w.heap.size w w' := by
  have h38 := Conf.right_spec.1 h
  have ht : Conf.tm n 2 = 2 * n := Conf.tm_yes h
  have CB := Lib.hid (fun w => block_val n _ ht w)
  have s2 : IntKind.i64.wrap (2 * n + 1) = 2 * n + 1 := IntWalk.i64_in _ (by omega)
  have HM := Lib.hid (show ∀ K, ms n K = if K = 8 then 2 * n + 1 else Vote.most n K from fun _ => rfl)
  generalize ms n = m at *
  clear ht h
  go_enter Try.func41, Try.ntmps41
  go_upto_region 8 with fail
  have HZ := Lib.hid ((Vls.nils w b n 59).alloc (.cells #[.pointer none, .int .i64 0, .pointer none, .int .i64 0, .pointer none, .int .i64 0, .pointer none, .int .i64 0, .pointer none, .int .i64 0, .pointer none, .int .i64 0, .pointer none, .int .i64 0, .pointer none, .int .i64 0, .pointer none, .int .i64 0] 59))
  have HA := Lib.hid (Vls.nils (w.alloc (.cells #[.pointer none, .int .i64 0, .pointer none, .int .i64 0, .pointer none, .int .i64 0, .pointer none, .int .i64 0, .pointer none, .int .i64 0, .pointer none, .int .i64 0, .pointer none, .int .i64 0, .pointer none, .int .i64 0, .pointer none, .int .i64 0] 59)) b n 59)
  go_loopw [8] (fun k wr => ∃ K : Nat, K ≤ 8 ∧ k = .int .i64 K ∧ Vls wr (w.heap.size + 1) 18 (agK b n K) ∧ Vls wr w.heap.size 18 (agK b n 0) ∧ Below w.heap.size w wr) (fun k _ => 8 - (intOf k).toNat)
  case atStart =>
    refine ⟨0, by omega, rfl, ?_, HZ.out, bel⟩
    simpa using HA.out
  case round =>
    clear HA HZ
    obtain ⟨K, hK, rfl, hI, hZ, hb⟩ := hrel
    have HB := Lib.hid hb
    have HI := Lib.hid hI
    have HZ := Lib.hid hZ
    by_cases hlt : K < 8
    · have h1 : (K : Int) < 8 := by omega
      have h9 : (K : Int) < 9 := by omega
      have h0 : (0 : Int) ≤ K := by omega
      have f0 := (hI.2 (K * 2) (by omega)).2
      have f1 := (hI.2 (K * 2 + 1) (by omega)).2
      have c0 := (hI.2 (K * 2) (by omega)).1
      have c1 := (hI.2 (K * 2 + 1) (by omega)).1
      have HN := Lib.hid (agK_next b n K)
      have HE := Lib.hid (agK_zero b n K)
      have hz := hI.1
      clear hb hI hZ
      by_cases hp : (K : Int) < n
      · go_wp2_with fail
        go_roundw
        case rel =>
          have := HB.out
          refine ⟨K + 1, by omega, by go_num, (HI.out.set (K * 2) _ (by omega) _ (fun j => rfl)).set (K * 2 + 1) (.int .i64 n) (by omega) _ (fun j => ?_), (HZ.out.other _ _ _ (by omega)).other _ _ _ (by omega), bel⟩
          rw [HN.out, Vote.most_yes hp]
        case measure => simp [intOf]; omega
      · go_wp2_with fail
        go_roundw
        case rel =>
          have := HB.out
          refine ⟨K + 1, by omega, by go_num, (HI.out.set (K * 2) (.pointer (some ⟨b, K, none⟩)) (by omega) _ (fun j => rfl)).like (fun j hj => ?_), HZ.out.other _ _ _ (by omega), bel⟩
          rw [HN.out, Vote.most_no hp]
          by_cases e : j = K * 2 + 1
          · rw [if_pos e, if_neg (by omega), e, HE.out]
          · rw [if_neg e]
        case measure => simp [intOf]; omega
    · obtain rfl : K = 8 := by omega
      have hz := hI.1
      clear hb hI hZ
      go_upto_region 9 with fail
      refine region_below_tail 8 (by kernel_rfl) (by kernel_rfl) ?_; intro wR HW; simp only [List.take_succ_cons, List.take_zero, List.drop_succ_cons, List.drop_zero]
      have HBR := Lib.hid (show Below w.heap.size w wR from by have := HB.out; rw [← HW.out]; exact bel)
      have HIR := Lib.hid (show Vls wR (w.heap.size + 1) 18 (agK b n 8) from by rw [← HW.out]; exact HI.out)
      have HZR := Lib.hid (show Vls wR w.heap.size 18 (agK b n 0) from by rw [← HW.out]; exact HZ.out)
      clear HI HZ HB hz
      (repeat (first | go_big_quiet_step (first | with_reducible exact Calls.regrown_of (CB.out _)) | quiet_step (first | with_reducible exact Calls.regrown_of (CB.out _)))); refine wpQuiet_nil ?_; intro w2 hb2
      have HI2 := Lib.hid (HIR.out.below hb2)
      have HZ2 := Lib.hid (HZR.out.below hb2)
      have HB2 := Lib.hid (show Below w.heap.size w w2 from by have := HBR.out; exact bthru hb2 this)
      clear hb2 HIR HZR HBR
      have f16 := (HI2.out.2 16 (by decide)).2
      have f17 := (HI2.out.2 17 (by decide)).2
      have c16 := (HI2.out.2 16 (by decide)).1
      have c17 := (HI2.out.2 17 (by decide)).1
      have hz := HI2.out.1
      go_upto_region 10 with fail
      generalize hw3 : World.setCell _ _ _ = w3
      have HI3 := Lib.hid (show Vls w3 (w.heap.size + 1) 18 (fun j => if j = 17 then .int .i64 (2 * n + 1) else if j = 16 then .pointer (some ⟨b, 9, none⟩) else agK b n 8 j) from by
        rw [← hw3]
        exact (HI2.out.set 16 _ (by omega) _ (fun j => rfl)).set 17 (.int .i64 (2 * n + 1)) (by omega) _ (fun j => rfl))
      have HZ3 := Lib.hid (show Vls w3 w.heap.size 18 (agK b n 0) from by rw [← hw3]; exact (HZ2.out.other _ _ _ (by omega)).other _ _ _ (by omega))
      have HB3 := Lib.hid (show Below w.heap.size w w3 from by have := HB2.out; rw [← hw3]; exact bel)
      clear hw3 c16 c17 f16 f17 hz HI2 HZ2 HB2
      generalize hg : (fun j => if j = 17 then Value.int .i64 (2 * n + 1) else if j = 16 then .pointer (some ⟨b, 9, none⟩) else agK b n 8 j) = g at HI3
      have HI4 := Lib.hid (show Vls w3 (w.heap.size + 1) 18 (ag18 b m) from by
        refine HI3.out.like (fun j hj => ?_)
        rw [← hg]
        rcases eighteen hj with rfl | rfl | rfl | rfl | rfl | rfl | rfl | rfl | rfl | rfl | rfl | rfl | rfl | rfl | rfl | rfl | rfl | rfl <;> simp [agK, ag18, pl, HM.out])
      clear HI3 hg
      refine wp_region_lit ?_
      refine wpList_load_mid rfl _ _ rfl (w.heap.size + 1) 0 rfl _ _ HI4.out.row18 Try.underlying59 rfl (by kernel_rfl) ?_
      refine wpList_store_mid rfl _ _ _ rfl w.heap.size 0 _ rfl rfl HZ3.out.there (by kernel_rfl) (one18 b m) ?_
      have HR4 := Lib.hid (World.rangeAt_setCells_same w3 w.heap.size 0 [.pointer (some ⟨b, 0, none⟩), .int .i64 (m 0), .pointer (some ⟨b, 1, none⟩), .int .i64 (m 1), .pointer (some ⟨b, 2, none⟩), .int .i64 (m 2), .pointer (some ⟨b, 3, none⟩), .int .i64 (m 3), .pointer (some ⟨b, 4, none⟩), .int .i64 (m 4), .pointer (some ⟨b, 5, none⟩), .int .i64 (m 5), .pointer (some ⟨b, 6, none⟩), .int .i64 (m 6), .pointer (some ⟨b, 7, none⟩), .int .i64 (m 7), .pointer (some ⟨b, 9, none⟩), .int .i64 (m 8)] HZ3.out.there)
      have HB4 := Lib.hid (below_cells (Nat.le_refl w.heap.size) [.pointer (some ⟨b, 0, none⟩), .int .i64 (m 0), .pointer (some ⟨b, 1, none⟩), .int .i64 (m 1), .pointer (some ⟨b, 2, none⟩), .int .i64 (m 2), .pointer (some ⟨b, 3, none⟩), .int .i64 (m 3), .pointer (some ⟨b, 4, none⟩), .int .i64 (m 4), .pointer (some ⟨b, 5, none⟩), .int .i64 (m 5), .pointer (some ⟨b, 6, none⟩), .int .i64 (m 6), .pointer (some ⟨b, 7, none⟩), .int .i64 (m 7), .pointer (some ⟨b, 9, none⟩), .int .i64 (m 8)] 0 w3 HB3.out)
      generalize w3.setCells w.heap.size 0 _ = w4 at *
      go_wp2
      exact bodyPost_ret (ret_cell Try.results41 w.heap.size [.pointer (some ⟨b, 0, none⟩), .int .i64 (m 0), .pointer (some ⟨b, 1, none⟩), .int .i64 (m 1), .pointer (some ⟨b, 2, none⟩), .int .i64 (m 2), .pointer (some ⟨b, 3, none⟩), .int .i64 (m 3), .pointer (some ⟨b, 4, none⟩), .int .i64 (m 4), .pointer (some ⟨b, 5, none⟩), .int .i64 (m 5), .pointer (some ⟨b, 6, none⟩), .int .i64 (m 6), .pointer (some ⟨b, 7, none⟩), .int .i64 (m 7), .pointer (some ⟨b, 9, none⟩), .int .i64 (m 8)] _ rfl HR4.out Try.underlying59 rfl (by kernel_rfl)) rfl ⟨rfl, HB4.out⟩
end Go.Proofs.Ytijgabippedhpaa
