
import Derived.Test.YthdieladjnneoaaRows
import Derived.Test.YthdieladjnneoaaWireA
import Derived.Lib.Strings
import Derived.Lib.IndexBytes
import Derived.RegionTactic
import Derived.ChangeAlike
import Derived.BigRegion
namespace Go.Proofs.Ythdieladjnneoaa
set_option linter.unusedVariables false
set_option linter.unusedSimpArgs false
open Go.ChangeShapes Go.WideShapes Go.RowKit

theorem sent_short (s : ByteArray) (h : decide ((s.size : Int) < 3) = true) (w : World) :
    Calls Try.prog 26 #[.string s] w fun e w' => e = .returned (.tuple #[.agg #[.int .i64 0, .int .i64 0], .bool false]) ∧ Below w.heap.size w w' := by
  go_enter Try.func26, Try.ntmps26
  go_wp2
  refine bodyPost_ret (v := .tuple #[.agg #[.int .i64 0, .int .i64 0], .bool false]) (by simp [results, Try.results26, go_sem]) rfl ⟨rfl, ?_⟩
  exact bel
theorem sent_first (s : ByteArray) (h : decide ((s.size : Int) < 3) = false) (h0 : 0 < s.size) (h2 : ((s[0].toNat : Int) != 216) = true) (w : World) :
    Calls Try.prog 26 #[.string s] w fun e w' => e = .returned (.tuple #[.agg #[.int .i64 0, .int .i64 0], .bool false]) ∧ Below w.heap.size w w' := by
  go_enter Try.func26, Try.ntmps26
  go_wp2
  refine bodyPost_ret (v := .tuple #[.agg #[.int .i64 0, .int .i64 0], .bool false]) (by simp [results, Try.results26, go_sem]) rfl ⟨rfl, ?_⟩
  exact bel
theorem sent_size (s : ByteArray) (h : decide ((s.size : Int) < 3) = false) (hs : s.size ≤ maxLen) (h0 : 0 < s.size) (h2 : ((s[0].toNat : Int) != 216) = false) (h7 : s.size ≠ 7) (w : World) :
    Calls Try.prog 26 #[.string s] w fun e w' => e = .returned (.tuple #[.agg #[.int .i64 0, .int .i64 0], .bool false]) ∧ Below w.heap.size w w' := by
  have h3 : (3 : Int) ≤ s.size := by have := of_decide_eq_false h; omega
  have H7 := Lib.hid h7
  clear h7
  go_enter Try.func26, Try.ntmps26
  go_wp2_with fail
  refine (val_no _ _ (by unfold maxLen at *; simp; omega) (by have := H7.out; simp; omega)).mono ?_; rintro e w' ⟨rfl, rfl⟩
  go_wp2
  refine bodyPost_ret (v := .tuple #[.agg #[.int .i64 0, .int .i64 0], .bool false]) (by simp [results, Try.results26, go_sem]) rfl ⟨rfl, ?_⟩
  exact bel
theorem val_lit4 (d e f g : UInt8) (w : World) :
    Calls Try.prog 27 #[.string ⟨#[d, e, f, g]⟩] w fun E w' => E = .returned (.tuple #[.int .u32 (Crc.val d.toNat e.toNat f.toNat g.toNat : Nat), .bool true]) ∧ ∃ n, w' = w.drewN n :=
  val_yes ⟨#[d, e, f, g]⟩ w (by simp [ByteArray.size]) (by simp [ByteArray.size])
theorem sum_lit3 (a b c : UInt8) (w : World) :
    Calls Try.prog 28 #[.string ⟨#[a, b, c]⟩] w fun e w' => e = .returned (.int .u32 (Crc.sum [a, b, c] : Nat)) ∧ w = w' :=
  sum_list [a, b, c] w (by simp [maxLen])
theorem sent_sum (s : ByteArray) (a b c d e f g : UInt8) (h : decide ((s.size : Int) < 3) = false) (h0 : 0 < s.size) (h3 : (3 : Int) ≤ s.size) (h2 : ((s[0].toNat : Int) != 216) = false) (e3 : s.extract 3 s.size = ⟨#[d, e, f, g]⟩) (e0 : s.extract 0 3 = ⟨#[a, b, c]⟩)
    (hne : (((Crc.val d.toNat e.toNat f.toNat g.toNat : Nat) : Int) != ((Crc.sum [a, b, c] : Nat) : Int)) = true) (w : World) :
    Calls Try.prog 26 #[.string s] w fun E w' => E = .returned (.tuple #[.agg #[.int .i64 0, .int .i64 0], .bool false]) ∧ Below w.heap.size w w' := by
  go_enter Try.func26, Try.ntmps26
  go_wp2_with fail
  refine (val_lit4 _ _ _ _ _).mono ?_
  rintro E w' ⟨rfl, n, rfl⟩
  go_wp2_with fail
  refine (sum_lit3 _ _ _ _).mono ?_; rintro e w' ⟨rfl, rfl⟩
  go_wp2
  refine bodyPost_ret (v := .tuple #[.agg #[.int .i64 0, .int .i64 0], .bool false]) (by simp [results, Try.results26, go_sem]) rfl ⟨rfl, ?_⟩
  exact bel
theorem sent_yes (s : ByteArray) (a b c d e f g : UInt8) (h : decide ((s.size : Int) < 3) = false) (h0 : 0 < s.size) (h3 : (3 : Int) ≤ s.size) (h2 : ((s[0].toNat : Int) != 216) = false) (e3 : s.extract 3 s.size = ⟨#[d, e, f, g]⟩) (e0 : s.extract 0 3 = ⟨#[a, b, c]⟩)
    (hne : (((Crc.val d.toNat e.toNat f.toNat g.toNat : Nat) : Int) != ((Crc.sum [a, b, c] : Nat) : Int)) = false) (i1 : (1 : Int) < s.size) (i2 : (2 : Int) < s.size) (hr : Wire.right s[1].toNat s[2].toNat = true) (w : World) :
    Calls Try.prog 26 #[.string s] w fun E w' => E = .returned (.tuple #[.agg #[.int .i64 (s[1].toNat : Int), .int .i64 (s[2].toNat : Int)], .bool true]) ∧ Below w.heap.size w w' := by
  have b1 : s[1].toNat < 256 := s[1].toNat_lt
  have b2 : s[2].toNat < 256 := s[2].toNat_lt
  have v1 : RowKit.wrap64 (s[1].toNat : Int) = s[1].toNat := IntWalk.wrap64_in _ (by omega)
  have v2 : RowKit.wrap64 (s[2].toNat : Int) = s[2].toNat := IntWalk.wrap64_in _ (by omega)
  have HR := Lib.hid hr
  clear hr
  go_enter Try.func26, Try.ntmps26
  go_wp2_with fail
  refine (val_lit4 _ _ _ _ _).mono ?_
  rintro E w' ⟨rfl, n, rfl⟩
  go_wp2_with fail
  refine (sum_lit3 _ _ _ _).mono ?_; rintro e w' ⟨rfl, rfl⟩
  go_wp2_with fail
  go_region
  go_wp2_with fail
  refine (wright_any _ _ _).mono ?_; rintro e w1 ⟨rfl, hb⟩; obtain ⟨hc, hf, hz⟩ := bcall hb; (try simp only [World.size_alloc, World.heap_drewN] at hz)
  have k0 := hc w.heap.size 0 (by simp; omega)
  have k1 := hc w.heap.size 1 (by simp; omega)
  simp [go_sem] at k0 k1
  try rw [v1, v2]
  rw [HR.out]
  go_wp2
  have k2 := two_set w1 w.heap.size _ _ (.int .i64 (s[1].toNat : Int)) (.int .i64 (s[2].toNat : Int)) k0 k1
  refine bodyPost_ret (v := .tuple #[.agg #[.int .i64 (s[1].toNat : Int), .int .i64 (s[2].toNat : Int)], .bool true]) (by simp [results, Try.results26, go_sem, k2.1, k2.2]) rfl ⟨rfl, ?_⟩
  exact bel
theorem sent_no (s : ByteArray) (a b c d e f g : UInt8) (h : decide ((s.size : Int) < 3) = false) (h0 : 0 < s.size) (h3 : (3 : Int) ≤ s.size) (h2 : ((s[0].toNat : Int) != 216) = false) (e3 : s.extract 3 s.size = ⟨#[d, e, f, g]⟩) (e0 : s.extract 0 3 = ⟨#[a, b, c]⟩)
    (hne : (((Crc.val d.toNat e.toNat f.toNat g.toNat : Nat) : Int) != ((Crc.sum [a, b, c] : Nat) : Int)) = false) (i1 : (1 : Int) < s.size) (i2 : (2 : Int) < s.size) (hr : Wire.right s[1].toNat s[2].toNat = false) (w : World) :
    Calls Try.prog 26 #[.string s] w fun E w' => E = .returned (.tuple #[.agg #[.int .i64 (0 : Int), .int .i64 (0 : Int)], .bool false]) ∧ Below w.heap.size w w' := by
  have b1 : s[1].toNat < 256 := s[1].toNat_lt
  have b2 : s[2].toNat < 256 := s[2].toNat_lt
  have v1 : RowKit.wrap64 (s[1].toNat : Int) = s[1].toNat := IntWalk.wrap64_in _ (by omega)
  have v2 : RowKit.wrap64 (s[2].toNat : Int) = s[2].toNat := IntWalk.wrap64_in _ (by omega)
  have HR := Lib.hid hr
  clear hr
  go_enter Try.func26, Try.ntmps26
  go_wp2_with fail
  refine (val_lit4 _ _ _ _ _).mono ?_
  rintro E w' ⟨rfl, n, rfl⟩
  go_wp2_with fail
  refine (sum_lit3 _ _ _ _).mono ?_; rintro e w' ⟨rfl, rfl⟩
  go_wp2_with fail
  go_region
  go_wp2_with fail
  refine (wright_any _ _ _).mono ?_; rintro e w1 ⟨rfl, hb⟩; obtain ⟨hc, hf, hz⟩ := bcall hb; (try simp only [World.size_alloc, World.heap_drewN] at hz)
  have k0 := hc w.heap.size 0 (by simp; omega)
  have k1 := hc w.heap.size 1 (by simp; omega)
  simp [go_sem] at k0 k1
  try rw [v1, v2]
  rw [HR.out]
  go_wp2
  have k2 := two_set w1 w.heap.size _ _ (.int .i64 (0 : Int)) (.int .i64 (0 : Int)) k0 k1
  refine bodyPost_ret (v := .tuple #[.agg #[.int .i64 (0 : Int), .int .i64 (0 : Int)], .bool false]) (by simp [results, Try.results26, go_sem, k2.1, k2.2]) rfl ⟨rfl, ?_⟩
  exact bel
end Go.Proofs.Ythdieladjnneoaa
