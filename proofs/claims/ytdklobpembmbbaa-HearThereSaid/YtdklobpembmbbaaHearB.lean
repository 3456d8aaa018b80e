
import Derived.Test.YtdklobpembmbbaaRows
import Derived.Test.YtdklobpembmbbaaHearA
import Derived.LoopN
import Derived.LoopTactic
import Derived.Deep.QuietTactic
import Derived.BigQuiet
import Derived.RegionTactic
namespace Go.Proofs.Ytdklobpembmbbaa
set_option linter.unusedVariables false
open Go.ChangeShapes Go.WideShapes Go.RowKit

theorem Hear.says_none {W : World} {fn : Nat} {k i : Int} {b : Bool} (h : ∀ w, Calls Try.prog fn #[.agg #[.int .i64 k, .int .i64 i]] w fun e w' => e = .returned (.bool b) ∧ Below w.heap.size w w') : Hear.Says W fn #[] k i b := fun w _ => h w
theorem Hear.says_cap {W : World} {fn : Nat} {x k i : Int} {b : Bool} {B : Nat} (hB : B < W.heap.size) (hx : W.cell? ⟨B, 0, none⟩ = some (.int .i64 x))
    (h : ∀ w, B < w.heap.size → w.cell? ⟨B, 0, none⟩ = some (.int .i64 x) → Calls Try.prog fn #[.agg #[.int .i64 k, .int .i64 i], .pointer (some ⟨B, 0, none⟩)] w fun e w' => e = .returned (.bool b) ∧ Below w.heap.size w w') :
    Hear.Says W fn #[.pointer (some ⟨B, 0, none⟩)] k i b := fun w hb => h w (Nat.lt_of_lt_of_le hB hb.size) (by rw [hb.cell (p := ⟨B, 0, none⟩) hB]; exact hx)

theorem info_any (k0 i0 k1 i1 : Int) (w : World) :
    Calls Try.prog 8 #[.agg #[.int .i64 k0, .int .i64 i0, .int .i64 k1, .int .i64 i1]] w fun e w' => e = .returned (.tuple #[.int .i64 (Hear.firstI (Hear.isInfo k0) (Hear.isInfo k1) i0 i1), .bool (Hear.isInfo k0 || Hear.isInfo k1)]) ∧ Below w.heap.size w w' := by
  go_enter Try.func8, Try.ntmps8
  go_wp2_with fail
  refine (first_any _ _ k0 i0 k1 i1 (Hear.isInfo k0) (Hear.isInfo k1) _ (fun _ _ => by kernel_rfl) (Hear.says_none (infoC_any k0 i0)) (Hear.says_none (infoC_any k1 i1))).mono ?_; rintro e w1 ⟨rfl, hb⟩; have hz := hb.size; try simp only [World.size_alloc, World.heap_drewN, World.size_setCell] at hz
  go_wp2
  go_ret2
  exact ⟨rfl, (by with_reducible repeat (first | exact Below.refl _ _ | apply kalloc | apply kept_drewN | (refine kset ?_ (by first | (simp; done) | (simp; omega)) _) | assumption | (refine bthru (by assumption) ?_)))⟩
theorem other_any (k0 i0 k1 i1 x : Int) (w : World) :
    Calls Try.prog 10 #[.agg #[.int .i64 k0, .int .i64 i0, .int .i64 k1, .int .i64 i1], .int .i64 x] w fun e w' => e = .returned (.tuple #[.int .i64 (Hear.firstI (Hear.isOther x k0 i0) (Hear.isOther x k1 i1) i0 i1), .bool (Hear.isOther x k0 i0 || Hear.isOther x k1 i1)]) ∧ Below w.heap.size w w' := by
  have hmf : ∀ (fn : Fn) (first cap : Array Value) (w : World), (Instr.makeFunc fn first cap).run Try.prog w = .ok (.func fn first cap) w := fun _ _ _ _ => rfl
  go_enter Try.func10, Try.ntmps10
  go_wp2_with fail
  refine (first_any _ _ k0 i0 k1 i1 (Hear.isOther x k0 i0) (Hear.isOther x k1 i1) _ (fun _ _ => by kernel_rfl) (Hear.says_cap (x := x) (by simp) (by simp [go_sem]) (fun w => otherC_any k0 i0 x _ w)) (Hear.says_cap (x := x) (by simp) (by simp [go_sem]) (fun w => otherC_any k1 i1 x _ w))).mono ?_; rintro e w1 ⟨rfl, hb⟩; have hz := hb.size; try simp only [World.size_alloc, World.heap_drewN, World.size_setCell] at hz
  go_wp2
  go_ret2
  exact ⟨rfl, (by with_reducible repeat (first | exact Below.refl _ _ | apply kalloc | apply kept_drewN | (refine kset ?_ (by first | (simp; done) | (simp; omega)) _) | assumption | (refine bthru (by assumption) ?_)))⟩
theorem wrong_any (k0 i0 k1 i1 x : Int) (w : World) :
    Calls Try.prog 12 #[.agg #[.int .i64 k0, .int .i64 i0, .int .i64 k1, .int .i64 i1], .int .i64 x] w fun e w' => e = .returned (.bool (Hear.isWrong x k0 i0 || Hear.isWrong x k1 i1)) ∧ Below w.heap.size w w' := by
  have hmf : ∀ (fn : Fn) (first cap : Array Value) (w : World), (Instr.makeFunc fn first cap).run Try.prog w = .ok (.func fn first cap) w := fun _ _ _ _ => rfl
  go_enter Try.func12, Try.ntmps12
  go_wp2_with fail
  refine (first_any _ _ k0 i0 k1 i1 (Hear.isWrong x k0 i0) (Hear.isWrong x k1 i1) _ (fun _ _ => by kernel_rfl) (Hear.says_cap (x := x) (by simp) (by simp [go_sem]) (fun w => wrongC_any k0 i0 x _ w)) (Hear.says_cap (x := x) (by simp) (by simp [go_sem]) (fun w => wrongC_any k1 i1 x _ w))).mono ?_; rintro e w1 ⟨rfl, hb⟩; have hz := hb.size; try simp only [World.size_alloc, World.heap_drewN, World.size_setCell] at hz
  go_wp2
  go_ret
  exact ⟨rfl, (by with_reducible repeat (first | exact Below.refl _ _ | apply kalloc | apply kept_drewN | (refine kset ?_ (by first | (simp; done) | (simp; omega)) _) | assumption | (refine bthru (by assumption) ?_)))⟩
theorem match_any (k0 i0 k1 i1 x : Int) (w : World) :
    Calls Try.prog 14 #[.agg #[.int .i64 k0, .int .i64 i0, .int .i64 k1, .int .i64 i1], .int .i64 x] w fun e w' => e = .returned (.bool (Hear.isMatch x k0 i0 || Hear.isMatch x k1 i1)) ∧ Below w.heap.size w w' := by
  have hmf : ∀ (fn : Fn) (first cap : Array Value) (w : World), (Instr.makeFunc fn first cap).run Try.prog w = .ok (.func fn first cap) w := fun _ _ _ _ => rfl
  go_enter Try.func14, Try.ntmps14
  go_wp2_with fail
  refine (first_any _ _ k0 i0 k1 i1 (Hear.isMatch x k0 i0) (Hear.isMatch x k1 i1) _ (fun _ _ => by kernel_rfl) (Hear.says_cap (x := x) (by simp) (by simp [go_sem]) (fun w => matchC_any k0 i0 x _ w)) (Hear.says_cap (x := x) (by simp) (by simp [go_sem]) (fun w => matchC_any k1 i1 x _ w))).mono ?_; rintro e w1 ⟨rfl, hb⟩; have hz := hb.size; try simp only [World.size_alloc, World.heap_drewN, World.size_setCell] at hz
  go_wp2
  go_ret
  exact ⟨rfl, (by with_reducible repeat (first | exact Below.refl _ _ | apply kalloc | apply kept_drewN | (refine kset ?_ (by first | (simp; done) | (simp; omega)) _) | assumption | (refine bthru (by assumption) ?_)))⟩
/-- What Of hands back. -/
def Hear.of (n : Int) (a b : List UInt8) : Array Value := #[.int .i64 (Hear.hk n a), .int .i64 (Hear.hi n a), .int .i64 (Hear.hk n b), .int .i64 (Hear.hi n b)]
theorem hearOf_no (n : Int) (a b : ByteArray) (h : Conf.right n = false) (w : World) :
    Calls Try.prog 6 #[.int .i64 n, .string a, .string b] w fun e w' => e = .returned (.tuple #[.agg #[.int .i64 0, .int .i64 0, .int .i64 0, .int .i64 0], .int .i64 1]) ∧ Below w.heap.size w w' := by
  go_enter Try.func6, Try.ntmps6
  go_wp2_with fail
  refine (cright_any n _).mono ?_; rintro e w' ⟨rfl, rfl⟩
  rw [h]
  go_wp2
  refine bodyPost_ret (ret_cell_tmp Try.results6 (w.heap.size + 1) [.int .i64 0, .int .i64 0, .int .i64 0, .int .i64 0] _ rfl (by with_reducible repeat (first | exact range_new_at _ _ _ (by first | omega | (simp; done) | (simp; omega)) | apply range_put | (with_unfolding_all rfl) | (refine range_alloc ?_ (by first | omega | (simp; done) | (simp; omega)) _) | (refine range_drewN ?_ _) | (refine range_far ?_ (by first | omega | (simp; done) | (simp; omega)) _) | assumption | (refine range_below ?_ (by assumption) (by first | omega | (simp; done) | (simp; omega))))) Try.underlying24 rfl (by kernel_rfl)) rfl ⟨rfl, ?_⟩; exact (by with_reducible repeat (first | exact Below.refl _ _ | apply kalloc | apply kept_drewN | (refine kset ?_ (by first | (simp; done) | (simp; omega)) _) | assumption | (refine bthru (by assumption) ?_)))
set_option maxHeartbeats 1000000 in
theorem hearOf_yes (n : Int) (a b : ByteArray) (ha : a.size ≤ maxLen) (hb' : b.size ≤ maxLen) (h : Conf.right n = true) (w : World) :
    Calls Try.prog 6 #[.int .i64 n, .string a, .string b] w fun e w' => e = .returned (.tuple #[.agg (Hear.of n a.data.toList b.data.toList), .int .i64 0]) ∧ Below w.heap.size w w' := by
  have hmf : ∀ (fn : Fn) (first cap : Array Value) (w : World), (Instr.makeFunc fn first cap).run Try.prog w = .ok (.func fn first cap) w := fun _ _ _ _ => rfl
  unfold Hear.of Hear.hk Hear.hi Hear.nk Hear.ni
  have GA := Lib.hid (fun w => get_any a ha w)
  have GB := Lib.hid (fun w => get_any b hb' w)
  generalize Wire.kind a.data.toList = ak at *
  generalize Wire.id_ a.data.toList = ai at *
  generalize Wire.kind b.data.toList = bk at *
  generalize Wire.id_ b.data.toList = bi at *
  have CK := Lib.hid (fun fn cap w he h0 h1 => keep_any fn cap ak ai bk bi (Hear.kept n ak ai) (Hear.kept n bk bi) w he h0 h1)
  generalize (if Hear.kept n ak ai = true then ak else 0) = x0 at *
  generalize (if Hear.kept n ak ai = true then ai else 0) = x1 at *
  generalize (if Hear.kept n bk bi = true then bk else 0) = x2 at *
  generalize (if Hear.kept n bk bi = true then bi else 0) = x3 at *
  clear ha hb'
  go_enter Try.func6, Try.ntmps6
  go_wp2_with fail
  refine (cright_any n _).mono ?_; rintro e w' ⟨rfl, rfl⟩
  rw [h]
  go_wp2_with fail
  refine (GA.out _).mono ?_; rintro e w1 ⟨rfl, hb⟩; have hz := hb.size; try simp only [World.size_alloc, World.heap_drewN, World.size_setCell] at hz
  have HB1 := Lib.hid (show Below w.heap.size w w1 from (by with_reducible repeat (first | exact Below.refl _ _ | apply kalloc | apply kept_drewN | (refine kset ?_ (by first | (simp; done) | (simp; omega)) _) | assumption | (refine bthru (by assumption) ?_))))
  have z_rn : (w.heap.size) < w1.heap.size := (by omega); have rn : w1.rangeAt (w.heap.size) 0 [.int .i64 n] := (by with_reducible repeat (first | exact range_new_at _ _ _ (by first | omega | (simp; done) | (simp; omega)) | apply range_put | (with_unfolding_all rfl) | (refine range_alloc ?_ (by first | omega | (simp; done) | (simp; omega)) _) | (refine range_drewN ?_ _) | (refine range_far ?_ (by first | omega | (simp; done) | (simp; omega)) _) | assumption | (refine range_below ?_ (by assumption) (by first | omega | (simp; done) | (simp; omega))))); have f_rn : Free w1 (w.heap.size) := (by with_reducible repeat (first | exact free_new_at _ _ _ (by first | omega | (simp; done) | (simp; omega)) | (refine free_set ?_ _ _) | (refine free_alloc ?_ (by first | omega | (simp; done) | (simp; omega)) _) | (refine free_drewN ?_ _) | assumption | (refine free_below ?_ (by assumption) (by first | omega | (simp; done) | (simp; omega)))))
  have z_rr : (w.heap.size + 1) < w1.heap.size := (by omega); have rr : w1.rangeAt (w.heap.size + 1) 0 [.int .i64 0, .int .i64 0, .int .i64 0, .int .i64 0] := (by with_reducible repeat (first | exact range_new_at _ _ _ (by first | omega | (simp; done) | (simp; omega)) | apply range_put | (with_unfolding_all rfl) | (refine range_alloc ?_ (by first | omega | (simp; done) | (simp; omega)) _) | (refine range_drewN ?_ _) | (refine range_far ?_ (by first | omega | (simp; done) | (simp; omega)) _) | assumption | (refine range_below ?_ (by assumption) (by first | omega | (simp; done) | (simp; omega))))); have f_rr : Free w1 (w.heap.size + 1) := (by with_reducible repeat (first | exact free_new_at _ _ _ (by first | omega | (simp; done) | (simp; omega)) | (refine free_set ?_ _ _) | (refine free_alloc ?_ (by first | omega | (simp; done) | (simp; omega)) _) | (refine free_drewN ?_ _) | assumption | (refine free_below ?_ (by assumption) (by first | omega | (simp; done) | (simp; omega)))))
  clear hb
  go_wp2_with fail
  refine (GB.out _).mono ?_; rintro e w2 ⟨rfl, hb⟩; have hz := hb.size; try simp only [World.size_alloc, World.heap_drewN, World.size_setCell] at hz
  have HB2 := Lib.hid (show Below w.heap.size w w2 from by have := HB1.out; exact (by with_reducible repeat (first | exact Below.refl _ _ | apply kalloc | apply kept_drewN | (refine kset ?_ (by first | (simp; done) | (simp; omega)) _) | assumption | (refine bthru (by assumption) ?_))))
  have z_rn : (w.heap.size) < w2.heap.size := (by omega); have rn : w2.rangeAt (w.heap.size) 0 [.int .i64 n] := (by with_reducible repeat (first | exact range_new_at _ _ _ (by first | omega | (simp; done) | (simp; omega)) | apply range_put | (with_unfolding_all rfl) | (refine range_alloc ?_ (by first | omega | (simp; done) | (simp; omega)) _) | (refine range_drewN ?_ _) | (refine range_far ?_ (by first | omega | (simp; done) | (simp; omega)) _) | assumption | (refine range_below ?_ (by assumption) (by first | omega | (simp; done) | (simp; omega))))); have f_rn : Free w2 (w.heap.size) := (by with_reducible repeat (first | exact free_new_at _ _ _ (by first | omega | (simp; done) | (simp; omega)) | (refine free_set ?_ _ _) | (refine free_alloc ?_ (by first | omega | (simp; done) | (simp; omega)) _) | (refine free_drewN ?_ _) | assumption | (refine free_below ?_ (by assumption) (by first | omega | (simp; done) | (simp; omega)))))
  have z_rr : (w.heap.size + 1) < w2.heap.size := (by omega); have rr : w2.rangeAt (w.heap.size + 1) 0 [.int .i64 0, .int .i64 0, .int .i64 0, .int .i64 0] := (by with_reducible repeat (first | exact range_new_at _ _ _ (by first | omega | (simp; done) | (simp; omega)) | apply range_put | (with_unfolding_all rfl) | (refine range_alloc ?_ (by first | omega | (simp; done) | (simp; omega)) _) | (refine range_drewN ?_ _) | (refine range_far ?_ (by first | omega | (simp; done) | (simp; omega)) _) | assumption | (refine range_below ?_ (by assumption) (by first | omega | (simp; done) | (simp; omega))))); have f_rr : Free w2 (w.heap.size + 1) := (by with_reducible repeat (first | exact free_new_at _ _ _ (by first | omega | (simp; done) | (simp; omega)) | (refine free_set ?_ _ _) | (refine free_alloc ?_ (by first | omega | (simp; done) | (simp; omega)) _) | (refine free_drewN ?_ _) | assumption | (refine free_below ?_ (by assumption) (by first | omega | (simp; done) | (simp; omega)))))
  clear hb
  have rn_0 := range_cell rn 0 rfl
  go_wp2_with fail
  refine (CK.out _ _ _ (fun _ _ => by kernel_rfl) (Hear.says_cap (x := n) (by simp; omega) (by simp [go_sem, z_rn, rn_0]) (fun w => ofC_any ak ai n _ w)) (Hear.says_cap (x := n) (by simp; omega) (by simp [go_sem, z_rn, rn_0]) (fun w => ofC_any bk bi n _ w))).mono ?_; rintro e w3 ⟨rfl, hb⟩; have hz := hb.size; try simp only [World.size_alloc, World.heap_drewN, World.size_setCell] at hz
  have HB3 := Lib.hid (show Below w.heap.size w w3 from by have := HB2.out; exact (by with_reducible repeat (first | exact Below.refl _ _ | apply kalloc | apply kept_drewN | (refine kset ?_ (by first | (simp; done) | (simp; omega)) _) | assumption | (refine bthru (by assumption) ?_))))
  have z_rr : (w.heap.size + 1) < w3.heap.size := (by omega); have rr : w3.rangeAt (w.heap.size + 1) 0 [.int .i64 0, .int .i64 0, .int .i64 0, .int .i64 0] := (by with_reducible repeat (first | exact range_new_at _ _ _ (by first | omega | (simp; done) | (simp; omega)) | apply range_put | (with_unfolding_all rfl) | (refine range_alloc ?_ (by first | omega | (simp; done) | (simp; omega)) _) | (refine range_drewN ?_ _) | (refine range_far ?_ (by first | omega | (simp; done) | (simp; omega)) _) | assumption | (refine range_below ?_ (by assumption) (by first | omega | (simp; done) | (simp; omega))))); have f_rr : Free w3 (w.heap.size + 1) := (by with_reducible repeat (first | exact free_new_at _ _ _ (by first | omega | (simp; done) | (simp; omega)) | (refine free_set ?_ _ _) | (refine free_alloc ?_ (by first | omega | (simp; done) | (simp; omega)) _) | (refine free_drewN ?_ _) | assumption | (refine free_below ?_ (by assumption) (by first | omega | (simp; done) | (simp; omega)))))
  clear hb
  have rr_0 := range_cell rr 0 rfl; have rr_1 := range_cell rr 1 rfl; have rr_2 := range_cell rr 2 rfl; have rr_3 := range_cell rr 3 rfl
  have rr_f0 := f_rr 0; have rr_f1 := f_rr 1; have rr_f2 := f_rr 2; have rr_f3 := f_rr 3
  go_wp2
  have := HB3.out
  refine bodyPost_ret (ret_cell_tmp Try.results6 (w.heap.size + 1) [.int .i64 x0, .int .i64 x1, .int .i64 x2, .int .i64 x3] _ rfl (by with_reducible repeat (first | exact range_new_at _ _ _ (by first | omega | (simp; done) | (simp; omega)) | apply range_put | (with_unfolding_all rfl) | (refine range_alloc ?_ (by first | omega | (simp; done) | (simp; omega)) _) | (refine range_drewN ?_ _) | (refine range_far ?_ (by first | omega | (simp; done) | (simp; omega)) _) | assumption | (refine range_below ?_ (by assumption) (by first | omega | (simp; done) | (simp; omega))))) Try.underlying24 rfl (by kernel_rfl)) rfl ⟨rfl, ?_⟩; exact (by with_reducible repeat (first | exact Below.refl _ _ | apply kalloc | apply kept_drewN | (refine kset ?_ (by first | (simp; done) | (simp; omega)) _) | assumption | (refine bthru (by assumption) ?_)))

/-! The document's. -/
theorem refOne_any (n : Int) (s : ByteArray) (w : World) :
    Calls Try.prog 22 #[.int .i64 n, .string s] w fun e w' => e = .returned (.agg #[.int .i64 (Hear.hk n s.data.toList), .int .i64 (Hear.hi n s.data.toList)]) ∧ Below w.heap.size w w' := by
  have E1 := (Hear.ref_eq n s.data.toList).1
  have E2 := (Hear.ref_eq n s.data.toList).2
  have GA := Lib.hid (fun w => refGet_any s w)
  generalize Wire.kind s.data.toList = k at *
  generalize Wire.id_ s.data.toList = i at *
  generalize Hear.hk n s.data.toList = x at *
  generalize Hear.hi n s.data.toList = y at *
  have key : (k = 3 ∧ x = 0 ∧ y = 0) ∨ ((k == 3) = false ∧ decide (n ≤ i) = true ∧ x = 0 ∧ y = 0) ∨ ((k == 3) = false ∧ decide (n ≤ i) = false ∧ x = k ∧ y = i) := by
    by_cases h1 : k = 3 <;> by_cases h2 : n ≤ i <;> simp [h1, h2] at E1 E2 ⊢ <;> omega
  clear E1 E2
  rcases key with ⟨rfl, rfl, rfl⟩ | ⟨h1, h2, rfl, rfl⟩ | ⟨h1, h2, rfl, rfl⟩
  · go_enter Try.func22, Try.ntmps22
    go_wp2_with fail
    refine (GA.out _).mono ?_; rintro e w1 ⟨rfl, hb⟩; have hz := hb.size; try simp only [World.size_alloc, World.heap_drewN, World.size_setCell] at hz
    have z_rr : (w.heap.size) < w1.heap.size := (by omega); have rr : w1.rangeAt (w.heap.size) 0 [.int .i64 0, .int .i64 0] := (by with_reducible repeat (first | exact range_new_at _ _ _ (by first | omega | (simp; done) | (simp; omega)) | apply range_put | (with_unfolding_all rfl) | (refine range_alloc ?_ (by first | omega | (simp; done) | (simp; omega)) _) | (refine range_drewN ?_ _) | (refine range_far ?_ (by first | omega | (simp; done) | (simp; omega)) _) | assumption | (refine range_below ?_ (by assumption) (by first | omega | (simp; done) | (simp; omega))))); have f_rr : Free w1 (w.heap.size) := (by with_reducible repeat (first | exact free_new_at _ _ _ (by first | omega | (simp; done) | (simp; omega)) | (refine free_set ?_ _ _) | (refine free_alloc ?_ (by first | omega | (simp; done) | (simp; omega)) _) | (refine free_drewN ?_ _) | assumption | (refine free_below ?_ (by assumption) (by first | omega | (simp; done) | (simp; omega)))))
    have rr_0 := range_cell rr 0 rfl
    have rr_1 := range_cell rr 1 rfl
    have fr_0 := f_rr 0
    have fr_1 := f_rr 1
    go_wp2
    refine bodyPost_ret (ret_cell Try.results22 (w.heap.size) [.int .i64 0, .int .i64 0] _ rfl (by with_reducible repeat (first | exact range_new_at _ _ _ (by first | omega | (simp; done) | (simp; omega)) | apply range_put | (with_unfolding_all rfl) | (refine range_alloc ?_ (by first | omega | (simp; done) | (simp; omega)) _) | (refine range_drewN ?_ _) | (refine range_far ?_ (by first | omega | (simp; done) | (simp; omega)) _) | assumption | (refine range_below ?_ (by assumption) (by first | omega | (simp; done) | (simp; omega))))) Try.underlying23 rfl (by kernel_rfl)) rfl ⟨rfl, ?_⟩; exact (by with_reducible repeat (first | exact Below.refl _ _ | apply kalloc | apply kept_drewN | (refine kset ?_ (by first | (simp; done) | (simp; omega)) _) | assumption | (refine bthru (by assumption) ?_)))
  · go_enter Try.func22, Try.ntmps22
    go_wp2_with fail
    refine (GA.out _).mono ?_; rintro e w1 ⟨rfl, hb⟩; have hz := hb.size; try simp only [World.size_alloc, World.heap_drewN, World.size_setCell] at hz
    have z_rr : (w.heap.size) < w1.heap.size := (by omega); have rr : w1.rangeAt (w.heap.size) 0 [.int .i64 0, .int .i64 0] := (by with_reducible repeat (first | exact range_new_at _ _ _ (by first | omega | (simp; done) | (simp; omega)) | apply range_put | (with_unfolding_all rfl) | (refine range_alloc ?_ (by first | omega | (simp; done) | (simp; omega)) _) | (refine range_drewN ?_ _) | (refine range_far ?_ (by first | omega | (simp; done) | (simp; omega)) _) | assumption | (refine range_below ?_ (by assumption) (by first | omega | (simp; done) | (simp; omega))))); have f_rr : Free w1 (w.heap.size) := (by with_reducible repeat (first | exact free_new_at _ _ _ (by first | omega | (simp; done) | (simp; omega)) | (refine free_set ?_ _ _) | (refine free_alloc ?_ (by first | omega | (simp; done) | (simp; omega)) _) | (refine free_drewN ?_ _) | assumption | (refine free_below ?_ (by assumption) (by first | omega | (simp; done) | (simp; omega)))))
    have rr_0 := range_cell rr 0 rfl
    have rr_1 := range_cell rr 1 rfl
    have fr_0 := f_rr 0
    have fr_1 := f_rr 1
    go_wp2
    refine bodyPost_ret (ret_cell Try.results22 (w.heap.size) [.int .i64 0, .int .i64 0] _ rfl (by with_reducible repeat (first | exact range_new_at _ _ _ (by first | omega | (simp; done) | (simp; omega)) | apply range_put | (with_unfolding_all rfl) | (refine range_alloc ?_ (by first | omega | (simp; done) | (simp; omega)) _) | (refine range_drewN ?_ _) | (refine range_far ?_ (by first | omega | (simp; done) | (simp; omega)) _) | assumption | (refine range_below ?_ (by assumption) (by first | omega | (simp; done) | (simp; omega))))) Try.underlying23 rfl (by kernel_rfl)) rfl ⟨rfl, ?_⟩; exact (by with_reducible repeat (first | exact Below.refl _ _ | apply kalloc | apply kept_drewN | (refine kset ?_ (by first | (simp; done) | (simp; omega)) _) | assumption | (refine bthru (by assumption) ?_)))
  · go_enter Try.func22, Try.ntmps22
    go_wp2_with fail
    refine (GA.out _).mono ?_; rintro e w1 ⟨rfl, hb⟩; have hz := hb.size; try simp only [World.size_alloc, World.heap_drewN, World.size_setCell] at hz
    have z_rr : (w.heap.size) < w1.heap.size := (by omega); have rr : w1.rangeAt (w.heap.size) 0 [.int .i64 0, .int .i64 0] := (by with_reducible repeat (first | exact range_new_at _ _ _ (by first | omega | (simp; done) | (simp; omega)) | apply range_put | (with_unfolding_all rfl) | (refine range_alloc ?_ (by first | omega | (simp; done) | (simp; omega)) _) | (refine range_drewN ?_ _) | (refine range_far ?_ (by first | omega | (simp; done) | (simp; omega)) _) | assumption | (refine range_below ?_ (by assumption) (by first | omega | (simp; done) | (simp; omega))))); have f_rr : Free w1 (w.heap.size) := (by with_reducible repeat (first | exact free_new_at _ _ _ (by first | omega | (simp; done) | (simp; omega)) | (refine free_set ?_ _ _) | (refine free_alloc ?_ (by first | omega | (simp; done) | (simp; omega)) _) | (refine free_drewN ?_ _) | assumption | (refine free_below ?_ (by assumption) (by first | omega | (simp; done) | (simp; omega)))))
    have rr_0 := range_cell rr 0 rfl
    have rr_1 := range_cell rr 1 rfl
    have fr_0 := f_rr 0
    have fr_1 := f_rr 1
    go_wp2
    refine bodyPost_ret (ret_cell Try.results22 (w.heap.size) [.int .i64 x, .int .i64 y] _ rfl (by with_reducible repeat (first | exact range_new_at _ _ _ (by first | omega | (simp; done) | (simp; omega)) | apply range_put | (with_unfolding_all rfl) | (refine range_alloc ?_ (by first | omega | (simp; done) | (simp; omega)) _) | (refine range_drewN ?_ _) | (refine range_far ?_ (by first | omega | (simp; done) | (simp; omega)) _) | assumption | (refine range_below ?_ (by assumption) (by first | omega | (simp; done) | (simp; omega))))) Try.underlying23 rfl (by kernel_rfl)) rfl ⟨rfl, ?_⟩; exact (by with_reducible repeat (first | exact Below.refl _ _ | apply kalloc | apply kept_drewN | (refine kset ?_ (by first | (simp; done) | (simp; omega)) _) | assumption | (refine bthru (by assumption) ?_)))
theorem refInfo_any (k0 i0 k1 i1 : Int) (w : World) :
    Calls Try.prog 9 #[.agg #[.int .i64 k0, .int .i64 i0, .int .i64 k1, .int .i64 i1]] w fun e w' => e = .returned (.tuple #[.int .i64 (Hear.firstI (Hear.isInfo k0) (Hear.isInfo k1) i0 i1), .bool (Hear.isInfo k0 || Hear.isInfo k1)]) ∧ Below w.heap.size w w' := by
  go_enter Try.func9, Try.ntmps9
  go_wp2_with fail
  refine wp_loop_rounds 3 ?_
  rw [rounds_succ]
  go_wp2_with fail
  all_goals first | (go_ret2; exact ⟨by first | rfl | (simp [Hear.firstI, Hear.isInfo, *]; done) | (simp_all [Hear.firstI, Hear.isInfo]; done), (by with_reducible repeat (first | exact Below.refl _ _ | apply kalloc | apply kept_drewN | (refine kset ?_ (by first | (simp; done) | (simp; omega)) _) | assumption | (refine bthru (by assumption) ?_)))⟩) | (rw [rounds_succ]; go_wp2_with fail; all_goals first | (go_ret2; exact ⟨by first | rfl | (simp [Hear.firstI, Hear.isInfo, *]; done) | (simp_all [Hear.firstI, Hear.isInfo]; done), (by with_reducible repeat (first | exact Below.refl _ _ | apply kalloc | apply kept_drewN | (refine kset ?_ (by first | (simp; done) | (simp; omega)) _) | assumption | (refine bthru (by assumption) ?_)))⟩) | (rw [rounds_succ]; go_wp2; (go_ret2; exact ⟨by first | rfl | (simp [Hear.firstI, Hear.isInfo, *]; done) | (simp_all [Hear.firstI, Hear.isInfo]; done), (by with_reducible repeat (first | exact Below.refl _ _ | apply kalloc | apply kept_drewN | (refine kset ?_ (by first | (simp; done) | (simp; omega)) _) | assumption | (refine bthru (by assumption) ?_)))⟩)))
set_option maxHeartbeats 1000000 in
theorem refOther_any (k0 i0 k1 i1 x : Int) (w : World) :
    Calls Try.prog 11 #[.agg #[.int .i64 k0, .int .i64 i0, .int .i64 k1, .int .i64 i1], .int .i64 x] w fun e w' => e = .returned (.tuple #[.int .i64 (Hear.firstI (Hear.isOther x k0 i0) (Hear.isOther x k1 i1) i0 i1), .bool (Hear.isOther x k0 i0 || Hear.isOther x k1 i1)]) ∧ Below w.heap.size w w' := by
  go_enter Try.func11, Try.ntmps11
  go_wp2_with fail
  refine wp_loop_rounds 3 ?_
  rw [rounds_succ]
  go_wp2_with fail
  all_goals first | (go_ret2; exact ⟨by first | rfl | (simp [Hear.firstI, Hear.isOther, *]; done) | (simp_all [Hear.firstI, Hear.isOther]; done), (by with_reducible repeat (first | exact Below.refl _ _ | apply kalloc | apply kept_drewN | (refine kset ?_ (by first | (simp; done) | (simp; omega)) _) | assumption | (refine bthru (by assumption) ?_)))⟩) | (rw [rounds_succ]; go_wp2_with fail; all_goals first | (go_ret2; exact ⟨by first | rfl | (simp [Hear.firstI, Hear.isOther, *]; done) | (simp_all [Hear.firstI, Hear.isOther]; done), (by with_reducible repeat (first | exact Below.refl _ _ | apply kalloc | apply kept_drewN | (refine kset ?_ (by first | (simp; done) | (simp; omega)) _) | assumption | (refine bthru (by assumption) ?_)))⟩) | (rw [rounds_succ]; go_wp2; (go_ret2; exact ⟨by first | rfl | (simp [Hear.firstI, Hear.isOther, *]; done) | (simp_all [Hear.firstI, Hear.isOther]; done), (by with_reducible repeat (first | exact Below.refl _ _ | apply kalloc | apply kept_drewN | (refine kset ?_ (by first | (simp; done) | (simp; omega)) _) | assumption | (refine bthru (by assumption) ?_)))⟩)))
theorem refWrong_any (k0 i0 k1 i1 x : Int) (w : World) :
    Calls Try.prog 13 #[.agg #[.int .i64 k0, .int .i64 i0, .int .i64 k1, .int .i64 i1], .int .i64 x] w fun e w' => e = .returned (.bool (Hear.isWrong x k0 i0 || Hear.isWrong x k1 i1)) ∧ Below w.heap.size w w' := by
  go_enter Try.func13, Try.ntmps13
  go_wp2
  all_goals (go_ret; exact ⟨by first | rfl | (simp [Hear.isWrong, *]; done) | (simp_all [Hear.isWrong]; done), (by with_reducible repeat (first | exact Below.refl _ _ | apply kalloc | apply kept_drewN | (refine kset ?_ (by first | (simp; done) | (simp; omega)) _) | assumption | (refine bthru (by assumption) ?_)))⟩)
theorem refMatch_any (k0 i0 k1 i1 x : Int) (w : World) :
    Calls Try.prog 15 #[.agg #[.int .i64 k0, .int .i64 i0, .int .i64 k1, .int .i64 i1], .int .i64 x] w fun e w' => e = .returned (.bool (Hear.isMatch x k0 i0 || Hear.isMatch x k1 i1)) ∧ Below w.heap.size w w' := by
  go_enter Try.func15, Try.ntmps15
  go_wp2
  all_goals (go_ret; exact ⟨by first | rfl | (simp [Hear.isMatch, *]; done) | (simp_all [Hear.isMatch]; done), (by with_reducible repeat (first | exact Below.refl _ _ | apply kalloc | apply kept_drewN | (refine kset ?_ (by first | (simp; done) | (simp; omega)) _) | assumption | (refine bthru (by assumption) ?_)))⟩)
theorem refHearOf_no (n : Int) (a b : ByteArray) (h : Conf.right n = false) (w : World) :
    Calls Try.prog 7 #[.int .i64 n, .string a, .string b] w fun e w' => e = .returned (.tuple #[.agg #[.int .i64 0, .int .i64 0, .int .i64 0, .int .i64 0], .int .i64 1]) ∧ Below w.heap.size w w' := by
  go_enter Try.func7, Try.ntmps7
  go_wp2_with fail
  refine (refCright_any n _).mono ?_; rintro e w' ⟨rfl, rfl⟩
  rw [h]
  go_wp2
  refine bodyPost_ret (ret_cell_tmp Try.results7 (w.heap.size) [.int .i64 0, .int .i64 0, .int .i64 0, .int .i64 0] _ rfl (by with_reducible repeat (first | exact range_new_at _ _ _ (by first | omega | (simp; done) | (simp; omega)) | apply range_put | (with_unfolding_all rfl) | (refine range_alloc ?_ (by first | omega | (simp; done) | (simp; omega)) _) | (refine range_drewN ?_ _) | (refine range_far ?_ (by first | omega | (simp; done) | (simp; omega)) _) | assumption | (refine range_below ?_ (by assumption) (by first | omega | (simp; done) | (simp; omega))))) Try.underlying24 rfl (by kernel_rfl)) rfl ⟨rfl, ?_⟩; exact (by with_reducible repeat (first | exact Below.refl _ _ | apply kalloc | apply kept_drewN | (refine kset ?_ (by first | (simp; done) | (simp; omega)) _) | assumption | (refine bthru (by assumption) ?_)))
theorem refHearOf_yes (n : Int) (a b : ByteArray) (h : Conf.right n = true) (w : World) :
    Calls Try.prog 7 #[.int .i64 n, .string a, .string b] w fun e w' => e = .returned (.tuple #[.agg (Hear.of n a.data.toList b.data.toList), .int .i64 0]) ∧ Below w.heap.size w w' := by
  unfold Hear.of
  have GA := Lib.hid (fun w => refOne_any n a w)
  have GB := Lib.hid (fun w => refOne_any n b w)
  generalize Hear.hk n a.data.toList = x0 at *
  generalize Hear.hi n a.data.toList = x1 at *
  generalize Hear.hk n b.data.toList = x2 at *
  generalize Hear.hi n b.data.toList = x3 at *
  go_enter Try.func7, Try.ntmps7
  go_wp2_with fail
  refine (refCright_any n _).mono ?_; rintro e w' ⟨rfl, rfl⟩
  rw [h]
  go_wp2_with fail
  refine (GA.out _).mono ?_; rintro e w1 ⟨rfl, hb⟩; have hz := hb.size; try simp only [World.size_alloc, World.heap_drewN, World.size_setCell] at hz
  have HB1 := Lib.hid (show Below w.heap.size w w1 from (by with_reducible repeat (first | exact Below.refl _ _ | apply kalloc | apply kept_drewN | (refine kset ?_ (by first | (simp; done) | (simp; omega)) _) | assumption | (refine bthru (by assumption) ?_))))
  have z_rr : (w.heap.size) < w1.heap.size := (by omega); have rr : w1.rangeAt (w.heap.size) 0 [.int .i64 0, .int .i64 0, .int .i64 0, .int .i64 0] := (by with_reducible repeat (first | exact range_new_at _ _ _ (by first | omega | (simp; done) | (simp; omega)) | apply range_put | (with_unfolding_all rfl) | (refine range_alloc ?_ (by first | omega | (simp; done) | (simp; omega)) _) | (refine range_drewN ?_ _) | (refine range_far ?_ (by first | omega | (simp; done) | (simp; omega)) _) | assumption | (refine range_below ?_ (by assumption) (by first | omega | (simp; done) | (simp; omega))))); have f_rr : Free w1 (w.heap.size) := (by with_reducible repeat (first | exact free_new_at _ _ _ (by first | omega | (simp; done) | (simp; omega)) | (refine free_set ?_ _ _) | (refine free_alloc ?_ (by first | omega | (simp; done) | (simp; omega)) _) | (refine free_drewN ?_ _) | assumption | (refine free_below ?_ (by assumption) (by first | omega | (simp; done) | (simp; omega)))))
  clear hb
  go_wp2_with fail
  refine (GB.out _).mono ?_; rintro e w2 ⟨rfl, hb⟩; have hz := hb.size; try simp only [World.size_alloc, World.heap_drewN, World.size_setCell] at hz
  have HB2 := Lib.hid (show Below w.heap.size w w2 from by have := HB1.out; exact (by with_reducible repeat (first | exact Below.refl _ _ | apply kalloc | apply kept_drewN | (refine kset ?_ (by first | (simp; done) | (simp; omega)) _) | assumption | (refine bthru (by assumption) ?_))))
  have z_rr : (w.heap.size) < w2.heap.size := (by omega); have rr : w2.rangeAt (w.heap.size) 0 [.int .i64 0, .int .i64 0, .int .i64 0, .int .i64 0] := (by with_reducible repeat (first | exact range_new_at _ _ _ (by first | omega | (simp; done) | (simp; omega)) | apply range_put | (with_unfolding_all rfl) | (refine range_alloc ?_ (by first | omega | (simp; done) | (simp; omega)) _) | (refine range_drewN ?_ _) | (refine range_far ?_ (by first | omega | (simp; done) | (simp; omega)) _) | assumption | (refine range_below ?_ (by assumption) (by first | omega | (simp; done) | (simp; omega))))); have f_rr : Free w2 (w.heap.size) := (by with_reducible repeat (first | exact free_new_at _ _ _ (by first | omega | (simp; done) | (simp; omega)) | (refine free_set ?_ _ _) | (refine free_alloc ?_ (by first | omega | (simp; done) | (simp; omega)) _) | (refine free_drewN ?_ _) | assumption | (refine free_below ?_ (by assumption) (by first | omega | (simp; done) | (simp; omega)))))
  clear hb
  have rr_0 := range_cell rr 0 rfl; have rr_1 := range_cell rr 1 rfl; have rr_2 := range_cell rr 2 rfl; have rr_3 := range_cell rr 3 rfl
  have rr_f0 := f_rr 0; have rr_f1 := f_rr 1; have rr_f2 := f_rr 2; have rr_f3 := f_rr 3
  go_wp2
  have := HB2.out
  refine bodyPost_ret (ret_cell_tmp Try.results7 (w.heap.size) [.int .i64 x0, .int .i64 x1, .int .i64 x2, .int .i64 x3] _ rfl (by with_reducible repeat (first | exact range_new_at _ _ _ (by first | omega | (simp; done) | (simp; omega)) | apply range_put | (with_unfolding_all rfl) | (refine range_alloc ?_ (by first | omega | (simp; done) | (simp; omega)) _) | (refine range_drewN ?_ _) | (refine range_far ?_ (by first | omega | (simp; done) | (simp; omega)) _) | assumption | (refine range_below ?_ (by assumption) (by first | omega | (simp; done) | (simp; omega))))) Try.underlying24 rfl (by kernel_rfl)) rfl ⟨rfl, ?_⟩; exact (by with_reducible repeat (first | exact Below.refl _ _ | apply kalloc | apply kept_drewN | (refine kset ?_ (by first | (simp; done) | (simp; omega)) _) | assumption | (refine bthru (by assumption) ?_)))
end Go.Proofs.Ytdklobpembmbbaa
