
import Derived.Test.YthdieladjnneoaaRows
import Derived.Test.YthdieladjnneoaaWireC
namespace Go.Proofs.Ythdieladjnneoaa
set_option linter.unusedVariables false
set_option linter.unusedSimpArgs false
open Go.ChangeShapes Go.WideShapes Go.RowKit

theorem refGet_nil (w : World) :
    Calls Try.prog 18 #[.string ⟨#[]⟩] w fun E w' => E = .returned (.agg #[.int .i64 0, .int .i64 0]) ∧ Below w.heap.size w w' := by
  go_enter Try.func18, Try.ntmps18
  go_wp2
  refine bodyPost_ret (ret_cell Try.results18 (w.heap.size) [.int .i64 0, .int .i64 0] _ rfl (by with_reducible repeat (first | exact range2_new _ _ _ _ | exact range2_set _ _ _ _ _ _ (by assumption) (by assumption) | (refine range_alloc ?_ (by first | (simp; done) | (simp; omega)) _) | (refine range_drewN ?_ _) | apply range_drew1 | (refine range_far ?_ (by first | (simp; done) | (simp; omega)) _) | assumption | (refine range_below ?_ (by assumption) (by first | (simp; done) | (simp; omega))))) Try.underlying35 rfl (by kernel_rfl)) rfl ⟨rfl, ?_⟩; exact bel

/-- The result's cells, and all that was there, are as they were. -/
def Wire.Kept (w wr : World) : Prop :=
  w.heap.size < wr.heap.size ∧ Below w.heap.size w wr ∧ wr.cell? ⟨w.heap.size, 0, none⟩ = some (.int .i64 0) ∧ wr.cell? ⟨w.heap.size, 1, none⟩ = some (.int .i64 0) ∧ wr.frozen? ⟨w.heap.size, 0, none⟩ = false ∧ wr.frozen? ⟨w.heap.size, 1, none⟩ = false
def Wire.Outer (s : ByteArray) (w : World) (k i f : Value) (wr : World) : Prop :=
  ∃ K : Nat, 1 ≤ K ∧ K ≤ 3 ∧ k = .int .i64 K ∧ (∀ k i : Nat, Wire.right k i = true → k < K → Wire.bytes k i ≠ s.data.toList) ∧ Wire.Kept w wr
def Wire.Inner (s : ByteArray) (w : World) (K : Nat) (i f : Value) (wr : World) : Prop :=
  ∃ I : Nat, I ≤ 8 ∧ i = .int .i64 I ∧ (∀ i : Nat, i < I → Wire.bytes K i ≠ s.data.toList) ∧ Wire.Kept w wr

set_option maxHeartbeats 1000000 in
theorem refGet_some (s : ByteArray) (hne : s.toList.isEmpty = false) (w : World) :
    Calls Try.prog 18 #[.string s] w fun E w' => E = .returned (.agg #[.int .i64 (Wire.kind s.data.toList), .int .i64 (Wire.id_ s.data.toList)]) ∧ Below w.heap.size w w' := by
  have hne2 : s.data.toList ≠ [] := fun e => by rw [(Wire.empty_iff s).2 e] at hne; cases hne
  go_enter Try.func18, Try.ntmps18
  go_wp2
  go_loopw [3, 4, 5] (Wire.Outer s w) (fun k _ _ _ => 3 - (intOf k).toNat)
  case atStart => exact ⟨1, by omega, by omega, rfl, fun k i hr hk => by have := Wire.right_spec.1 hr; omega, by simp [Wire.Kept, go_sem]; exact bel⟩
  case round =>
    obtain ⟨K, hK1, hK3, rfl, hno, hkept⟩ := hrel
    have HK := Lib.hid hkept
    have HN := Lib.hid hno
    have HE := Lib.hid hne2
    clear hkept hno hne2
    by_cases hlt : K ≤ 2
    · have hd : decide ((K : Int) ≤ 2) = true := by simp; omega
      go_wp2
      obtain ⟨wo, rfl⟩ : ∃ wo : World, wo = wr := ⟨_, rfl⟩
      go_loopw [4, 5] (Wire.Inner s w K) (fun i _ _ => 8 - (intOf i).toNat)
      case atStart => exact ⟨0, by omega, rfl, fun i hi => by omega, HK.out⟩
      case round =>
        obtain ⟨I, hI8, rfl, hno, hkept⟩ := hrel
        have HK := Lib.hid hkept
        have HI := Lib.hid hno
        clear hkept hno
        by_cases hli : I < 8
        · have hr : Wire.right (K : Int) (I : Int) = true := Wire.right_spec.2 (by omega)
          have HR := Lib.hid hr
          clear hr
          go_wp2_with fail
          obtain ⟨hw, hb0, c0, c1, f0, f1⟩ := HK.out
          refine (refPut_right _ _ HR.out _).mono ?_; rintro e w1 ⟨rfl, hb⟩; obtain ⟨hc, hf, hz⟩ := bcall hb; (try simp only [World.size_alloc, World.heap_drewN] at hz)
          have z0 : (w.heap.size) < w1.heap.size := (by omega); have k0 := hc (w.heap.size) 0 (by first | (simp; done) | (simp; omega) | omega); have k1 := hc (w.heap.size) 1 (by first | (simp; done) | (simp; omega) | omega); have g0 := hf (w.heap.size) 0 (by first | (simp; done) | (simp; omega) | omega); have g1 := hf (w.heap.size) 1 (by first | (simp; done) | (simp; omega) | omega); simp [go_sem, hw, c0, c1, f0, f1] at k0; simp [go_sem, hw, c0, c1, f0, f1] at k1; simp [go_sem, hw, c0, c1, f0, f1] at g0; simp [go_sem, hw, c0, c1, f0, f1] at g1
          have HM : Hid (w1.cell? ⟨w.heap.size, 0, none⟩ = some (.int .i64 0) ∧ w1.cell? ⟨w.heap.size, 1, none⟩ = some (.int .i64 0) ∧ w1.frozen? ⟨w.heap.size, 0, none⟩ = false ∧ w1.frozen? ⟨w.heap.size, 1, none⟩ = false) := ⟨k0, k1, g0, g1⟩
          have z0 : (wr.heap.size) < w1.heap.size := (by omega); have k0 := hc (wr.heap.size) 0 (by first | (simp; done) | (simp; omega) | omega); have k1 := hc (wr.heap.size) 1 (by first | (simp; done) | (simp; omega) | omega); have g0 := hf (wr.heap.size) 0 (by first | (simp; done) | (simp; omega) | omega); have g1 := hf (wr.heap.size) 1 (by first | (simp; done) | (simp; omega) | omega); simp [go_sem] at k0; simp [go_sem] at k1; simp [go_sem] at g0; simp [go_sem] at g1
          go_wp2
          · have he : Wire.bytes K I = s.data.toList := by
              have h : (Wire.bytes K I == s.toList) = true := by assumption
              rw [← ByteArray.toList_eq]; simpa using h
            have e1 := Wire.kind_bytes HR.out
            rw [he] at e1
            rw [e1.1, e1.2]
            refine bodyPost_ret (ret_cell Try.results18 (w.heap.size) [.int .i64 (K : Int), .int .i64 (I : Int)] _ rfl (by with_reducible repeat (first | exact range2_new _ _ _ _ | exact range2_set _ _ _ _ _ _ (by assumption) (by assumption) | (refine range_alloc ?_ (by first | (simp; done) | (simp; omega)) _) | (refine range_drewN ?_ _) | apply range_drew1 | (refine range_far ?_ (by first | (simp; done) | (simp; omega)) _) | assumption | (refine range_below ?_ (by assumption) (by first | (simp; done) | (simp; omega))))) Try.underlying35 rfl (by kernel_rfl)) rfl ⟨rfl, ?_⟩; exact bel
          · have he : Wire.bytes K I ≠ s.data.toList := by
              have h : (Wire.bytes K I == s.toList) = false := by assumption
              rw [← ByteArray.toList_eq]; simpa using h
            go_roundw
            case rel =>
              refine ⟨I + 1, by omega, by go_num, fun i hi => ?_, ?_⟩
              · by_cases e : i = I
                · subst e; exact he
                · exact HI.out i (by omega)
              · exact ⟨by omega, bel, HM.out⟩
            case measure => simp [intOf]; omega
        · obtain rfl : I = 8 := by omega
          go_wp2
          go_roundw
          case rel =>
            refine ⟨K + 1, by omega, by omega, by go_num, fun k i hr hk => ?_, HK.out⟩
            by_cases e : k = K
            · subst e; exact HI.out i (by have := Wire.right_spec.1 hr; omega)
            · exact HN.out k i hr (by omega)
          case measure => simp [intOf]; omega
    · obtain rfl : K = 3 := by omega
      obtain ⟨hw, hb0, c0, c1, f0, f1⟩ := HK.out
      have e1 := Wire.kind_no HE.out (fun k i hr => HN.out k i hr (by have := Wire.right_spec.1 hr; omega))
      have E1 := Lib.hid e1
      clear e1
      go_wp2
      rw [E1.out.1, E1.out.2]
      refine bodyPost_ret (ret_cell Try.results18 (w.heap.size) [.int .i64 3, .int .i64 0] _ rfl (by with_reducible repeat (first | exact range2_new _ _ _ _ | exact range2_set _ _ _ _ _ _ (by assumption) (by assumption) | (refine range_alloc ?_ (by first | (simp; done) | (simp; omega)) _) | (refine range_drewN ?_ _) | apply range_drew1 | (refine range_far ?_ (by first | (simp; done) | (simp; omega)) _) | assumption | (refine range_below ?_ (by assumption) (by first | (simp; done) | (simp; omega))))) Try.underlying35 rfl (by kernel_rfl)) rfl ⟨rfl, ?_⟩; exact bel
theorem refGet_any (s : ByteArray) (w : World) :
    Calls Try.prog 18 #[.string s] w fun E w' => E = .returned (.agg #[.int .i64 (Wire.kind s.data.toList), .int .i64 (Wire.id_ s.data.toList)]) ∧ Below w.heap.size w w' := by
  by_cases h : s.toList.isEmpty = true
  · have h2 := (Wire.empty_iff s).1 h
    obtain ⟨⟨l⟩⟩ := s
    simp at h2
    subst h2
    exact refGet_nil w
  · exact refGet_some s (by simpa using h) w
end Go.Proofs.Ythdieladjnneoaa
