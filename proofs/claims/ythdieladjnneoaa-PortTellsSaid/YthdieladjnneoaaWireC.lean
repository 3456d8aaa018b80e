
import Derived.Test.YthdieladjnneoaaRows
import Derived.Test.YthdieladjnneoaaWireB
import Derived.Lib.QuietBelow
namespace Go.Proofs.Ythdieladjnneoaa
set_option linter.unusedVariables false
set_option linter.unusedSimpArgs false
open Go.ChangeShapes Go.WideShapes Go.RowKit

theorem Wire.bytes7 (s : ByteArray) (h : s.size = 7) : ∃ a b c d e f g : UInt8, s = ⟨#[a, b, c, d, e, f, g]⟩ := by
  obtain ⟨⟨l⟩⟩ := s
  have h' : l.length = 7 := h
  match l, h' with
  | [a, b, c, d, e, f, g], _ => exact ⟨a, b, c, d, e, f, g, rfl⟩
def Wire.sk (l : List UInt8) : Int := if Wire.isB l = true then ((l.getD 1 0).toNat : Int) else 0
theorem Wire.sent_eq {l : List UInt8} (h : Wire.isB l = true) : Wire.sk l = Wire.kind l := by
  have hne : l ≠ [] := by rintro rfl; cases h
  unfold Wire.sk Wire.kind
  rw [if_pos h, if_pos h, if_neg hne]
theorem Wire.sent_ne {l : List UInt8} (h : Wire.isB l = false) : Wire.sk l = 0 ∧ Wire.id_ l = 0 := by
  unfold Wire.sk Wire.id_
  rw [h]; exact ⟨rfl, rfl⟩
theorem sent_any (s : ByteArray) (hs : s.size ≤ maxLen) (w : World) :
    Calls Try.prog 26 #[.string s] w fun E w' => E = .returned (.tuple #[.agg #[.int .i64 (Wire.sk s.data.toList), .int .i64 (Wire.id_ s.data.toList)], .bool (Wire.isB s.data.toList)]) ∧ Below w.heap.size w w' := by
  by_cases h7 : s.size = 7
  · obtain ⟨a, b, c, d, e, f, g, rfl⟩ := Wire.bytes7 s h7
    have h3 : decide ((((⟨#[a, b, c, d, e, f, g]⟩ : ByteArray).size : Nat) : Int) < 3) = false := rfl
    have e3 : (⟨#[a, b, c, d, e, f, g]⟩ : ByteArray).extract 3 (⟨#[a, b, c, d, e, f, g]⟩ : ByteArray).size = ⟨#[d, e, f, g]⟩ := by apply ByteArray.ext; simp [ByteArray.data_extract, ByteArray.size]
    have e0 : (⟨#[a, b, c, d, e, f, g]⟩ : ByteArray).extract 0 3 = ⟨#[a, b, c]⟩ := by apply ByteArray.ext; simp [ByteArray.data_extract]
    by_cases h2 : a = 216
    · have h2' : (((⟨#[a, b, c, d, e, f, g]⟩ : ByteArray)[0].toNat : Int) != 216) = false := by subst h2; rfl
      by_cases h4 : Crc.val d.toNat e.toNat f.toNat g.toNat = Crc.sum [a, b, c]
      · have h4' : (((Crc.val d.toNat e.toNat f.toNat g.toNat : Nat) : Int) != ((Crc.sum [a, b, c] : Nat) : Int)) = false := by simp [h4]
        by_cases h5 : Wire.right (b.toNat : Int) (c.toNat : Int) = true
        · have hi : Wire.isB [a, b, c, d, e, f, g] = true := by simp [Wire.isB, h2, h5]; rw [h4, h2]
          refine (sent_yes _ a b c d e f g h3 (by simp [ByteArray.size]) (by simp [ByteArray.size]) h2' e3 e0 h4' (by simp [ByteArray.size]) (by simp [ByteArray.size]) h5 w).mono ?_
          rintro E w' ⟨rfl, hb⟩
          refine ⟨?_, hb⟩
          show _ = Ending.returned (.tuple #[.agg #[.int .i64 (Wire.sk [a, b, c, d, e, f, g]), .int .i64 (Wire.id_ [a, b, c, d, e, f, g])], .bool (Wire.isB [a, b, c, d, e, f, g])])
          unfold Wire.sk Wire.id_
          rw [hi]; rfl
        · have h5' : Wire.right (b.toNat : Int) (c.toNat : Int) = false := by simpa using h5
          have hi : Wire.isB [a, b, c, d, e, f, g] = false := by simp [Wire.isB, h5']
          refine (sent_no _ a b c d e f g h3 (by simp [ByteArray.size]) (by simp [ByteArray.size]) h2' e3 e0 h4' (by simp [ByteArray.size]) (by simp [ByteArray.size]) h5' w).mono ?_
          rintro E w' ⟨rfl, hb⟩
          refine ⟨?_, hb⟩
          show _ = Ending.returned (.tuple #[.agg #[.int .i64 (Wire.sk [a, b, c, d, e, f, g]), .int .i64 (Wire.id_ [a, b, c, d, e, f, g])], .bool (Wire.isB [a, b, c, d, e, f, g])])
          rw [(Wire.sent_ne hi).1, (Wire.sent_ne hi).2, hi]
      · have h4' : (((Crc.val d.toNat e.toNat f.toNat g.toNat : Nat) : Int) != ((Crc.sum [a, b, c] : Nat) : Int)) = true := by simp; omega
        have hi : Wire.isB [a, b, c, d, e, f, g] = false := by simp [Wire.isB, h4]
        refine (sent_sum _ a b c d e f g h3 (by simp [ByteArray.size]) (by simp [ByteArray.size]) h2' e3 e0 h4' w).mono ?_
        rintro E w' ⟨rfl, hb⟩
        refine ⟨?_, hb⟩
        show _ = Ending.returned (.tuple #[.agg #[.int .i64 (Wire.sk [a, b, c, d, e, f, g]), .int .i64 (Wire.id_ [a, b, c, d, e, f, g])], .bool (Wire.isB [a, b, c, d, e, f, g])])
        rw [(Wire.sent_ne hi).1, (Wire.sent_ne hi).2, hi]
    · have h2' : (((⟨#[a, b, c, d, e, f, g]⟩ : ByteArray)[0].toNat : Int) != 216) = true := by
        show ((a.toNat : Int) != 216) = true
        have : a.toNat ≠ 216 := fun h => h2 (by rw [← UInt8.toNat_inj]; exact h)
        simp; omega
      have hi : Wire.isB [a, b, c, d, e, f, g] = false := by simp [Wire.isB, h2]
      refine (sent_first _ h3 (by simp [ByteArray.size]) h2' w).mono ?_
      rintro E w' ⟨rfl, hb⟩
      refine ⟨?_, hb⟩
      show _ = Ending.returned (.tuple #[.agg #[.int .i64 (Wire.sk [a, b, c, d, e, f, g]), .int .i64 (Wire.id_ [a, b, c, d, e, f, g])], .bool (Wire.isB [a, b, c, d, e, f, g])])
      rw [(Wire.sent_ne hi).1, (Wire.sent_ne hi).2, hi]
  · have hi : Wire.isB s.data.toList = false := by
      rw [Bool.eq_false_iff]; intro h; exact h7 (by have h8 := Wire.isB_size h; show s.data.size = 7; simpa using h8)
    rw [(Wire.sent_ne hi).1, (Wire.sent_ne hi).2, hi]
    by_cases h3 : decide ((s.size : Int) < 3) = true
    · exact sent_short s h3 w
    · have h3' : decide ((s.size : Int) < 3) = false := by simpa using h3
      have h0 : 0 < s.size := by have := of_decide_eq_false h3'; omega
      by_cases h2 : ((s[0].toNat : Int) != 216) = true
      · exact sent_first s h3' h0 h2 w
      · exact sent_size s h3' hs h0 (by simpa using h2) h7 w

theorem get_nil (w : World) :
    Calls Try.prog 24 #[.string ⟨#[]⟩] w fun E w' => E = .returned (.agg #[.int .i64 0, .int .i64 0]) ∧ Below w.heap.size w w' := by
  go_enter Try.func24, Try.ntmps24
  go_wp2
  refine bodyPost_ret (ret_cell Try.results24 (w.heap.size) [.int .i64 0, .int .i64 0] _ rfl (by with_reducible repeat (first | exact range2_new _ _ _ _ | exact range2_set _ _ _ _ _ _ (by assumption) (by assumption) | (refine range_alloc ?_ (by first | (simp; done) | (simp; omega)) _) | (refine range_drewN ?_ _) | apply range_drew1 | (refine range_far ?_ (by first | (simp; done) | (simp; omega)) _) | assumption | (refine range_below ?_ (by assumption) (by first | (simp; done) | (simp; omega))))) Try.underlying35 rfl (by kernel_rfl)) rfl ⟨rfl, ?_⟩; exact bel
theorem get_yes (s : ByteArray) (hs : s.size ≤ maxLen) (hne : s.toList.isEmpty = false) (hi : Wire.isB s.data.toList = true) (w : World) :
    Calls Try.prog 24 #[.string s] w fun E w' => E = .returned (.agg #[.int .i64 (Wire.sk s.data.toList), .int .i64 (Wire.id_ s.data.toList)]) ∧ Below w.heap.size w w' := by
  have HI := Lib.hid hi
  clear hi
  go_enter Try.func24, Try.ntmps24
  go_wp2_with fail
  refine (sent_any _ hs _).mono ?_; rintro e w1 ⟨rfl, hb⟩; obtain ⟨hc, hf, hz⟩ := bcall hb; (try simp only [World.size_alloc, World.heap_drewN] at hz)
  have z0 : (w.heap.size) < w1.heap.size := (by omega); have k0 := hc (w.heap.size) 0 (by first | (simp; done) | (simp; omega) | omega); have k1 := hc (w.heap.size) 1 (by first | (simp; done) | (simp; omega) | omega); have g0 := hf (w.heap.size) 0 (by first | (simp; done) | (simp; omega) | omega); have g1 := hf (w.heap.size) 1 (by first | (simp; done) | (simp; omega) | omega); simp [go_sem] at k0; simp [go_sem] at k1; simp [go_sem] at g0; simp [go_sem] at g1
  rw [HI.out]
  go_wp2
  refine bodyPost_ret (ret_cell Try.results24 (w.heap.size) [.int .i64 (Wire.sk s.data.toList), .int .i64 (Wire.id_ s.data.toList)] _ rfl (by with_reducible repeat (first | exact range2_new _ _ _ _ | exact range2_set _ _ _ _ _ _ (by assumption) (by assumption) | (refine range_alloc ?_ (by first | (simp; done) | (simp; omega)) _) | (refine range_drewN ?_ _) | apply range_drew1 | (refine range_far ?_ (by first | (simp; done) | (simp; omega)) _) | assumption | (refine range_below ?_ (by assumption) (by first | (simp; done) | (simp; omega))))) Try.underlying35 rfl (by kernel_rfl)) rfl ⟨rfl, ?_⟩; exact bel
theorem get_no (s : ByteArray) (hs : s.size ≤ maxLen) (hne : s.toList.isEmpty = false) (hi : Wire.isB s.data.toList = false) (w : World) :
    Calls Try.prog 24 #[.string s] w fun E w' => E = .returned (.agg #[.int .i64 3, .int .i64 0]) ∧ Below w.heap.size w w' := by
  have HI := Lib.hid hi
  clear hi
  go_enter Try.func24, Try.ntmps24
  go_wp2_with fail
  refine (sent_any _ hs _).mono ?_; rintro e w1 ⟨rfl, hb⟩; obtain ⟨hc, hf, hz⟩ := bcall hb; (try simp only [World.size_alloc, World.heap_drewN] at hz)
  have z0 : (w.heap.size) < w1.heap.size := (by omega); have k0 := hc (w.heap.size) 0 (by first | (simp; done) | (simp; omega) | omega); have k1 := hc (w.heap.size) 1 (by first | (simp; done) | (simp; omega) | omega); have g0 := hf (w.heap.size) 0 (by first | (simp; done) | (simp; omega) | omega); have g1 := hf (w.heap.size) 1 (by first | (simp; done) | (simp; omega) | omega); simp [go_sem] at k0; simp [go_sem] at k1; simp [go_sem] at g0; simp [go_sem] at g1
  rw [HI.out]
  go_wp2
  refine bodyPost_ret (ret_cell Try.results24 (w.heap.size) [.int .i64 3, .int .i64 0] _ rfl (by with_reducible repeat (first | exact range2_new _ _ _ _ | exact range2_set _ _ _ _ _ _ (by assumption) (by assumption) | (refine range_alloc ?_ (by first | (simp; done) | (simp; omega)) _) | (refine range_drewN ?_ _) | apply range_drew1 | (refine range_far ?_ (by first | (simp; done) | (simp; omega)) _) | assumption | (refine range_below ?_ (by assumption) (by first | (simp; done) | (simp; omega))))) Try.underlying35 rfl (by kernel_rfl)) rfl ⟨rfl, ?_⟩; exact bel
theorem Wire.empty_iff (s : ByteArray) : s.toList.isEmpty = true ↔ s.data.toList = [] := by
  rw [List.isEmpty_iff, ByteArray.toList_eq]
theorem get_any (s : ByteArray) (hs : s.size ≤ maxLen) (w : World) :
    Calls Try.prog 24 #[.string s] w fun E w' => E = .returned (.agg #[.int .i64 (Wire.kind s.data.toList), .int .i64 (Wire.id_ s.data.toList)]) ∧ Below w.heap.size w w' := by
  by_cases h : s.toList.isEmpty = true
  · have h2 := (Wire.empty_iff s).1 h
    obtain ⟨⟨l⟩⟩ := s
    simp at h2
    subst h2
    exact get_nil w
  · have h2 : s.toList.isEmpty = false := by simpa using h
    have h3 : s.data.toList ≠ [] := fun e => h ((Wire.empty_iff s).2 e)
    by_cases h4 : Wire.isB s.data.toList = true
    · rw [← Wire.sent_eq h4]
      exact get_yes s hs h2 h4 w
    · have h5 : Wire.isB s.data.toList = false := by simpa using h4
      have h6 : Wire.kind s.data.toList = 3 := by unfold Wire.kind; rw [if_neg h3, if_neg h4]
      rw [h6, (Wire.sent_ne h5).2]
      exact get_no s hs h2 h5 w
end Go.Proofs.Ythdieladjnneoaa
