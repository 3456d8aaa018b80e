
import Derived.Test.YtjkdmnodamcjnaaRows
import Derived.Test.YtjkdmnodamcjnaaAct0
import Derived.Test.YtjkdmnodamcjnaaSayA
import Derived.Test.YtjkdmnodamcjnaaHearB
import Derived.Test.YtjkdmnodamcjnaaNodeB
import Derived.Deep.RegionWith
namespace Go.Proofs.Ytjkdmnodamcjnaa
set_option linter.unusedVariables false
set_option linter.unusedSimpArgs false
open Go.ChangeShapes Go.WideShapes Go.RowKit

def Act.val : Act.Nd → Value
  | ⟨i, m, c, p⟩ => .agg #[.int .i64 i, .int .i64 m, .int .i64 c, .int .i64 p]
theorem goJoin_any (i m c p n k0 i0 k1 i1 : Int) (s : Bool) (x : Int) (hn : 3 ≤ n ∧ n ≤ 8) (hx : 0 ≤ x ∧ x < n) (w : World) :
    Calls Try.prog 42 #[.agg #[.int .i64 i, .int .i64 m, .int .i64 c, .int .i64 p, .int .i64 n, .int .i64 k0, .int .i64 i0, .int .i64 k1, .int .i64 i1, .bool s], .int .i64 x] w fun e w' => e = .returned (.agg #[.int .i64 i, .int .i64 3, .int .i64 0, .int .i64 ((x + 1) % n)]) ∧ Below w.heap.size w w' := by
  go_enter Try.func42, Try.ntmps42
  go_wp2_with fail
  go_region_with (first | (go_at_call 50; refine (next_any _ _ (by omega) (by omega) hx.1 hx.2 _).mono ?_; rintro e w' ⟨rfl, rfl⟩))
  all_goals
    go_wp2
    refine bodyPost_ret (ret_cell Try.results42 (w.heap.size + 1) [.int .i64 i, .int .i64 3, .int .i64 0, .int .i64 ((x + 1) % n)] _ rfl rng Try.underlying23 rfl (by kernel_rfl)) rfl ⟨rfl, ?_⟩; exact bel
theorem goWait_any (i m c p n k0 i0 k1 i1 : Int) (s : Bool) (w : World) :
    Calls Try.prog 44 #[.agg #[.int .i64 i, .int .i64 m, .int .i64 c, .int .i64 p, .int .i64 n, .int .i64 k0, .int .i64 i0, .int .i64 k1, .int .i64 i1, .bool s]] w fun e w' => e = .returned (.agg #[.int .i64 i, .int .i64 2, .int .i64 0, .int .i64 0]) ∧ Below w.heap.size w w' := by
  go_enter Try.func44, Try.ntmps44
  go_wp2
  refine bodyPost_ret (ret_cell Try.results44 (w.heap.size + 1) [.int .i64 i, .int .i64 2, .int .i64 0, .int .i64 0] _ rfl rng Try.underlying23 rfl (by kernel_rfl)) rfl ⟨rfl, ?_⟩; exact bel
theorem goUp_any (i m c p n k0 i0 k1 i1 : Int) (s : Bool) (hc : 0 ≤ c ∧ c ≤ 1073741824) (w : World) :
    Calls Try.prog 45 #[.agg #[.int .i64 i, .int .i64 m, .int .i64 c, .int .i64 p, .int .i64 n, .int .i64 k0, .int .i64 i0, .int .i64 k1, .int .i64 i1, .bool s]] w fun e w' => e = .returned (.agg #[.int .i64 i, .int .i64 m, .int .i64 (Act.up c), .int .i64 p]) ∧ Below w.heap.size w w' := by
  go_enter Try.func45, Try.ntmps45
  go_wp2_with fail
  refine (up_any _ _ (by omega) (by omega) _).mono ?_; rintro e w' ⟨rfl, rfl⟩
  rw [show Tally.up c 1073741824 = Act.up c from rfl]
  go_wp2
  refine bodyPost_ret (ret_cell Try.results45 (w.heap.size + 1) [.int .i64 i, .int .i64 m, .int .i64 (Act.up c), .int .i64 p] _ rfl rng Try.underlying23 rfl (by kernel_rfl)) rfl ⟨rfl, ?_⟩; exact bel
theorem goListen_any (i c p n k0 i0 k1 i1 : Int) (s : Bool) (hn : 3 ≤ n ∧ n ≤ 8) (hc : 0 ≤ c ∧ c ≤ 1073741824) (hh : Act.heard n k0 i0 k1 i1 = true) (w : World) :
    Calls Try.prog 26 #[.agg #[.int .i64 i, .int .i64 1, .int .i64 c, .int .i64 p, .int .i64 n, .int .i64 k0, .int .i64 i0, .int .i64 k1, .int .i64 i1, .bool s]] w fun e w' => e = .returned (Act.val (Act.listen n i c p (Hear.isInfo k0 || Hear.isInfo k1) (Hear.firstI (Hear.isInfo k0) (Hear.isInfo k1) i0 i1) (Hear.isOther i k0 i0 || Hear.isOther i k1 i1) s)) ∧ Below w.heap.size w w' := by
  have H1 := Act.info_there hh
  clear hh
  have CI := Lib.hid (fun w => info_any k0 i0 k1 i1 w)
  have CO := Lib.hid (fun w => other_any k0 i0 k1 i1 i w)
  generalize (Hear.isInfo k0 || Hear.isInfo k1) = b1 at *
  generalize Hear.firstI (Hear.isInfo k0) (Hear.isInfo k1) i0 i1 = d1 at *
  generalize (Hear.isOther i k0 i0 || Hear.isOther i k1 i1) = b2 at *
  generalize Hear.firstI (Hear.isOther i k0 i0) (Hear.isOther i k1 i1) i0 i1 = d2 at *
  cases b1
  · clear H1
    cases b2
    · cases s
      · rw [show Act.val (Act.listen n i c p false d1 false false) = .agg #[.int .i64 i, .int .i64 1, .int .i64 (Act.up c), .int .i64 p] from rfl]
        go_enter Try.func26, Try.ntmps26
        go_wp2_with fail
        refine (CI.out _).mono ?_; rintro e w1 ⟨rfl, hb⟩; have hz := hb.size; (try simp only [World.size_alloc, World.heap_drewN, World.size_drew, World.size_setCell] at hz)
        have HB1 := Lib.hid (show Below w.heap.size w w1 from bel)
        have z_ra : (w.heap.size) < w1.heap.size := (by omega); replace ra : w1.rangeAt (w.heap.size) 0 [.int .i64 i, .int .i64 1, .int .i64 c, .int .i64 p, .int .i64 n, .int .i64 k0, .int .i64 i0, .int .i64 k1, .int .i64 i1, .bool false] := rng
        have z_rr : (w.heap.size + 1) < w1.heap.size := (by omega); replace rr : w1.rangeAt (w.heap.size + 1) 0 [.int .i64 0, .int .i64 0, .int .i64 0, .int .i64 0] := rng; replace f_rr : Free w1 (w.heap.size + 1) := fre
        clear hb
        replace ra_0 := range_cell ra 0 rfl; replace ra_1 := range_cell ra 1 rfl; replace ra_2 := range_cell ra 2 rfl; replace ra_3 := range_cell ra 3 rfl; replace ra_4 := range_cell ra 4 rfl; replace ra_5 := range_cell ra 5 rfl; replace ra_6 := range_cell ra 6 rfl; replace ra_7 := range_cell ra 7 rfl; replace ra_8 := range_cell ra 8 rfl; replace ra_9 := range_cell ra 9 rfl
        replace rr_0 := range_cell rr 0 rfl; replace rr_1 := range_cell rr 1 rfl; replace rr_2 := range_cell rr 2 rfl; replace rr_3 := range_cell rr 3 rfl
        replace rr_f0 := f_rr 0; replace rr_f1 := f_rr 1; replace rr_f2 := f_rr 2; replace rr_f3 := f_rr 3
        go_wp2_with fail
        refine (CO.out _).mono ?_; rintro e w2 ⟨rfl, hb⟩; have hz := hb.size; (try simp only [World.size_alloc, World.heap_drewN, World.size_drew, World.size_setCell] at hz)
        have HB2 := Lib.hid (show Below w.heap.size w w2 from by have := HB1.out; exact bel)
        have z_ra : (w.heap.size) < w2.heap.size := (by omega); replace ra : w2.rangeAt (w.heap.size) 0 [.int .i64 i, .int .i64 1, .int .i64 c, .int .i64 p, .int .i64 n, .int .i64 k0, .int .i64 i0, .int .i64 k1, .int .i64 i1, .bool false] := rng
        have z_rr : (w.heap.size + 1) < w2.heap.size := (by omega); replace rr : w2.rangeAt (w.heap.size + 1) 0 [.int .i64 0, .int .i64 0, .int .i64 0, .int .i64 0] := rng; replace f_rr : Free w2 (w.heap.size + 1) := fre
        clear hb
        replace ra_0 := range_cell ra 0 rfl; replace ra_1 := range_cell ra 1 rfl; replace ra_2 := range_cell ra 2 rfl; replace ra_3 := range_cell ra 3 rfl; replace ra_4 := range_cell ra 4 rfl; replace ra_5 := range_cell ra 5 rfl; replace ra_6 := range_cell ra 6 rfl; replace ra_7 := range_cell ra 7 rfl; replace ra_8 := range_cell ra 8 rfl; replace ra_9 := range_cell ra 9 rfl
        replace rr_0 := range_cell rr 0 rfl; replace rr_1 := range_cell rr 1 rfl; replace rr_2 := range_cell rr 2 rfl; replace rr_3 := range_cell rr 3 rfl
        replace rr_f0 := f_rr 0; replace rr_f1 := f_rr 1; replace rr_f2 := f_rr 2; replace rr_f3 := f_rr 3
        go_wp2_with fail
        refine (goUp_any i 1 c p n k0 i0 k1 i1 false hc _).mono ?_; rintro e w3 ⟨rfl, hb⟩; have hz := hb.size; (try simp only [World.size_alloc, World.heap_drewN, World.size_drew, World.size_setCell] at hz)
        have HB3 := Lib.hid (show Below w.heap.size w w3 from by have := HB2.out; exact bel)
        have z_ra : (w.heap.size) < w3.heap.size := (by omega); replace ra : w3.rangeAt (w.heap.size) 0 [.int .i64 i, .int .i64 1, .int .i64 c, .int .i64 p, .int .i64 n, .int .i64 k0, .int .i64 i0, .int .i64 k1, .int .i64 i1, .bool false] := rng
        have z_rr : (w.heap.size + 1) < w3.heap.size := (by omega); replace rr : w3.rangeAt (w.heap.size + 1) 0 [.int .i64 0, .int .i64 0, .int .i64 0, .int .i64 0] := rng; replace f_rr : Free w3 (w.heap.size + 1) := fre
        clear hb
        replace ra_0 := range_cell ra 0 rfl; replace ra_1 := range_cell ra 1 rfl; replace ra_2 := range_cell ra 2 rfl; replace ra_3 := range_cell ra 3 rfl; replace ra_4 := range_cell ra 4 rfl; replace ra_5 := range_cell ra 5 rfl; replace ra_6 := range_cell ra 6 rfl; replace ra_7 := range_cell ra 7 rfl; replace ra_8 := range_cell ra 8 rfl; replace ra_9 := range_cell ra 9 rfl
        replace rr_0 := range_cell rr 0 rfl; replace rr_1 := range_cell rr 1 rfl; replace rr_2 := range_cell rr 2 rfl; replace rr_3 := range_cell rr 3 rfl
        replace rr_f0 := f_rr 0; replace rr_f1 := f_rr 1; replace rr_f2 := f_rr 2; replace rr_f3 := f_rr 3
        have := HB3.out
        go_wp2
        refine bodyPost_ret (ret_cell Try.results26 (w.heap.size + 1) [.int .i64 i, .int .i64 1, .int .i64 (Act.up c), .int .i64 p] _ rfl rng Try.underlying23 rfl (by kernel_rfl)) rfl ⟨rfl, ?_⟩; exact bel
      · rw [show Act.val (Act.listen n i c p false d1 false true) = .agg #[.int .i64 i, .int .i64 2, .int .i64 0, .int .i64 0] from rfl]
        go_enter Try.func26, Try.ntmps26
        go_wp2_with fail
        refine (CI.out _).mono ?_; rintro e w1 ⟨rfl, hb⟩; have hz := hb.size; (try simp only [World.size_alloc, World.heap_drewN, World.size_drew, World.size_setCell] at hz)
        have HB1 := Lib.hid (show Below w.heap.size w w1 from bel)
        have z_ra : (w.heap.size) < w1.heap.size := (by omega); replace ra : w1.rangeAt (w.heap.size) 0 [.int .i64 i, .int .i64 1, .int .i64 c, .int .i64 p, .int .i64 n, .int .i64 k0, .int .i64 i0, .int .i64 k1, .int .i64 i1, .bool true] := rng
        have z_rr : (w.heap.size + 1) < w1.heap.size := (by omega); replace rr : w1.rangeAt (w.heap.size + 1) 0 [.int .i64 0, .int .i64 0, .int .i64 0, .int .i64 0] := rng; replace f_rr : Free w1 (w.heap.size + 1) := fre
        clear hb
        replace ra_0 := range_cell ra 0 rfl; replace ra_1 := range_cell ra 1 rfl; replace ra_2 := range_cell ra 2 rfl; replace ra_3 := range_cell ra 3 rfl; replace ra_4 := range_cell ra 4 rfl; replace ra_5 := range_cell ra 5 rfl; replace ra_6 := range_cell ra 6 rfl; replace ra_7 := range_cell ra 7 rfl; replace ra_8 := range_cell ra 8 rfl; replace ra_9 := range_cell ra 9 rfl
        replace rr_0 := range_cell rr 0 rfl; replace rr_1 := range_cell rr 1 rfl; replace rr_2 := range_cell rr 2 rfl; replace rr_3 := range_cell rr 3 rfl
        replace rr_f0 := f_rr 0; replace rr_f1 := f_rr 1; replace rr_f2 := f_rr 2; replace rr_f3 := f_rr 3
        go_wp2_with fail
        refine (CO.out _).mono ?_; rintro e w2 ⟨rfl, hb⟩; have hz := hb.size; (try simp only [World.size_alloc, World.heap_drewN, World.size_drew, World.size_setCell] at hz)
        have HB2 := Lib.hid (show Below w.heap.size w w2 from by have := HB1.out; exact bel)
        have z_ra : (w.heap.size) < w2.heap.size := (by omega); replace ra : w2.rangeAt (w.heap.size) 0 [.int .i64 i, .int .i64 1, .int .i64 c, .int .i64 p, .int .i64 n, .int .i64 k0, .int .i64 i0, .int .i64 k1, .int .i64 i1, .bool true] := rng
        have z_rr : (w.heap.size + 1) < w2.heap.size := (by omega); replace rr : w2.rangeAt (w.heap.size + 1) 0 [.int .i64 0, .int .i64 0, .int .i64 0, .int .i64 0] := rng; replace f_rr : Free w2 (w.heap.size + 1) := fre
        clear hb
        replace ra_0 := range_cell ra 0 rfl; replace ra_1 := range_cell ra 1 rfl; replace ra_2 := range_cell ra 2 rfl; replace ra_3 := range_cell ra 3 rfl; replace ra_4 := range_cell ra 4 rfl; replace ra_5 := range_cell ra 5 rfl; replace ra_6 := range_cell ra 6 rfl; replace ra_7 := range_cell ra 7 rfl; replace ra_8 := range_cell ra 8 rfl; replace ra_9 := range_cell ra 9 rfl
        replace rr_0 := range_cell rr 0 rfl; replace rr_1 := range_cell rr 1 rfl; replace rr_2 := range_cell rr 2 rfl; replace rr_3 := range_cell rr 3 rfl
        replace rr_f0 := f_rr 0; replace rr_f1 := f_rr 1; replace rr_f2 := f_rr 2; replace rr_f3 := f_rr 3
        go_wp2_with fail
        refine (goWait_any i 1 c p n k0 i0 k1 i1 true _).mono ?_; rintro e w3 ⟨rfl, hb⟩; have hz := hb.size; (try simp only [World.size_alloc, World.heap_drewN, World.size_drew, World.size_setCell] at hz)
        have HB3 := Lib.hid (show Below w.heap.size w w3 from by have := HB2.out; exact bel)
        have z_ra : (w.heap.size) < w3.heap.size := (by omega); replace ra : w3.rangeAt (w.heap.size) 0 [.int .i64 i, .int .i64 1, .int .i64 c, .int .i64 p, .int .i64 n, .int .i64 k0, .int .i64 i0, .int .i64 k1, .int .i64 i1, .bool true] := rng
        have z_rr : (w.heap.size + 1) < w3.heap.size := (by omega); replace rr : w3.rangeAt (w.heap.size + 1) 0 [.int .i64 0, .int .i64 0, .int .i64 0, .int .i64 0] := rng; replace f_rr : Free w3 (w.heap.size + 1) := fre
        clear hb
        replace ra_0 := range_cell ra 0 rfl; replace ra_1 := range_cell ra 1 rfl; replace ra_2 := range_cell ra 2 rfl; replace ra_3 := range_cell ra 3 rfl; replace ra_4 := range_cell ra 4 rfl; replace ra_5 := range_cell ra 5 rfl; replace ra_6 := range_cell ra 6 rfl; replace ra_7 := range_cell ra 7 rfl; replace ra_8 := range_cell ra 8 rfl; replace ra_9 := range_cell ra 9 rfl
        replace rr_0 := range_cell rr 0 rfl; replace rr_1 := range_cell rr 1 rfl; replace rr_2 := range_cell rr 2 rfl; replace rr_3 := range_cell rr 3 rfl
        replace rr_f0 := f_rr 0; replace rr_f1 := f_rr 1; replace rr_f2 := f_rr 2; replace rr_f3 := f_rr 3
        have := HB3.out
        go_wp2
        refine bodyPost_ret (ret_cell Try.results26 (w.heap.size + 1) [.int .i64 i, .int .i64 2, .int .i64 0, .int .i64 0] _ rfl rng Try.underlying23 rfl (by kernel_rfl)) rfl ⟨rfl, ?_⟩; exact bel
    · rw [show Act.val (Act.listen n i c p false d1 true s) = .agg #[.int .i64 i, .int .i64 2, .int .i64 0, .int .i64 0] from rfl]
      go_enter Try.func26, Try.ntmps26
      go_wp2_with fail
      refine (CI.out _).mono ?_; rintro e w1 ⟨rfl, hb⟩; have hz := hb.size; (try simp only [World.size_alloc, World.heap_drewN, World.size_drew, World.size_setCell] at hz)
      have HB1 := Lib.hid (show Below w.heap.size w w1 from bel)
      have z_ra : (w.heap.size) < w1.heap.size := (by omega); replace ra : w1.rangeAt (w.heap.size) 0 [.int .i64 i, .int .i64 1, .int .i64 c, .int .i64 p, .int .i64 n, .int .i64 k0, .int .i64 i0, .int .i64 k1, .int .i64 i1, .bool s] := rng
      have z_rr : (w.heap.size + 1) < w1.heap.size := (by omega); replace rr : w1.rangeAt (w.heap.size + 1) 0 [.int .i64 0, .int .i64 0, .int .i64 0, .int .i64 0] := rng; replace f_rr : Free w1 (w.heap.size + 1) := fre
      clear hb
      replace ra_0 := range_cell ra 0 rfl; replace ra_1 := range_cell ra 1 rfl; replace ra_2 := range_cell ra 2 rfl; replace ra_3 := range_cell ra 3 rfl; replace ra_4 := range_cell ra 4 rfl; replace ra_5 := range_cell ra 5 rfl; replace ra_6 := range_cell ra 6 rfl; replace ra_7 := range_cell ra 7 rfl; replace ra_8 := range_cell ra 8 rfl; replace ra_9 := range_cell ra 9 rfl
      replace rr_0 := range_cell rr 0 rfl; replace rr_1 := range_cell rr 1 rfl; replace rr_2 := range_cell rr 2 rfl; replace rr_3 := range_cell rr 3 rfl
      replace rr_f0 := f_rr 0; replace rr_f1 := f_rr 1; replace rr_f2 := f_rr 2; replace rr_f3 := f_rr 3
      go_wp2_with fail
      refine (CO.out _).mono ?_; rintro e w2 ⟨rfl, hb⟩; have hz := hb.size; (try simp only [World.size_alloc, World.heap_drewN, World.size_drew, World.size_setCell] at hz)
      have HB2 := Lib.hid (show Below w.heap.size w w2 from by have := HB1.out; exact bel)
      have z_ra : (w.heap.size) < w2.heap.size := (by omega); replace ra : w2.rangeAt (w.heap.size) 0 [.int .i64 i, .int .i64 1, .int .i64 c, .int .i64 p, .int .i64 n, .int .i64 k0, .int .i64 i0, .int .i64 k1, .int .i64 i1, .bool s] := rng
      have z_rr : (w.heap.size + 1) < w2.heap.size := (by omega); replace rr : w2.rangeAt (w.heap.size + 1) 0 [.int .i64 0, .int .i64 0, .int .i64 0, .int .i64 0] := rng; replace f_rr : Free w2 (w.heap.size + 1) := fre
      clear hb
      replace ra_0 := range_cell ra 0 rfl; replace ra_1 := range_cell ra 1 rfl; replace ra_2 := range_cell ra 2 rfl; replace ra_3 := range_cell ra 3 rfl; replace ra_4 := range_cell ra 4 rfl; replace ra_5 := range_cell ra 5 rfl; replace ra_6 := range_cell ra 6 rfl; replace ra_7 := range_cell ra 7 rfl; replace ra_8 := range_cell ra 8 rfl; replace ra_9 := range_cell ra 9 rfl
      replace rr_0 := range_cell rr 0 rfl; replace rr_1 := range_cell rr 1 rfl; replace rr_2 := range_cell rr 2 rfl; replace rr_3 := range_cell rr 3 rfl
      replace rr_f0 := f_rr 0; replace rr_f1 := f_rr 1; replace rr_f2 := f_rr 2; replace rr_f3 := f_rr 3
      go_wp2_with fail
      refine (goWait_any i 1 c p n k0 i0 k1 i1 s _).mono ?_; rintro e w3 ⟨rfl, hb⟩; have hz := hb.size; (try simp only [World.size_alloc, World.heap_drewN, World.size_drew, World.size_setCell] at hz)
      have HB3 := Lib.hid (show Below w.heap.size w w3 from by have := HB2.out; exact bel)
      have z_ra : (w.heap.size) < w3.heap.size := (by omega); replace ra : w3.rangeAt (w.heap.size) 0 [.int .i64 i, .int .i64 1, .int .i64 c, .int .i64 p, .int .i64 n, .int .i64 k0, .int .i64 i0, .int .i64 k1, .int .i64 i1, .bool s] := rng
      have z_rr : (w.heap.size + 1) < w3.heap.size := (by omega); replace rr : w3.rangeAt (w.heap.size + 1) 0 [.int .i64 0, .int .i64 0, .int .i64 0, .int .i64 0] := rng; replace f_rr : Free w3 (w.heap.size + 1) := fre
      clear hb
      replace ra_0 := range_cell ra 0 rfl; replace ra_1 := range_cell ra 1 rfl; replace ra_2 := range_cell ra 2 rfl; replace ra_3 := range_cell ra 3 rfl; replace ra_4 := range_cell ra 4 rfl; replace ra_5 := range_cell ra 5 rfl; replace ra_6 := range_cell ra 6 rfl; replace ra_7 := range_cell ra 7 rfl; replace ra_8 := range_cell ra 8 rfl; replace ra_9 := range_cell ra 9 rfl
      replace rr_0 := range_cell rr 0 rfl; replace rr_1 := range_cell rr 1 rfl; replace rr_2 := range_cell rr 2 rfl; replace rr_3 := range_cell rr 3 rfl
      replace rr_f0 := f_rr 0; replace rr_f1 := f_rr 1; replace rr_f2 := f_rr 2; replace rr_f3 := f_rr 3
      have := HB3.out
      go_wp2
      refine bodyPost_ret (ret_cell Try.results26 (w.heap.size + 1) [.int .i64 i, .int .i64 2, .int .i64 0, .int .i64 0] _ rfl rng Try.underlying23 rfl (by kernel_rfl)) rfl ⟨rfl, ?_⟩; exact bel
  · have h1 := H1 rfl
    clear H1 CO
    rw [show Act.val (Act.listen n i c p true d1 b2 s) = .agg #[.int .i64 i, .int .i64 3, .int .i64 0, .int .i64 ((d1 + 1) % n)] from rfl]
    go_enter Try.func26, Try.ntmps26
    go_wp2_with fail
    refine (CI.out _).mono ?_; rintro e w1 ⟨rfl, hb⟩; have hz := hb.size; (try simp only [World.size_alloc, World.heap_drewN, World.size_drew, World.size_setCell] at hz)
    have HB1 := Lib.hid (show Below w.heap.size w w1 from bel)
    have z_ra : (w.heap.size) < w1.heap.size := (by omega); replace ra : w1.rangeAt (w.heap.size) 0 [.int .i64 i, .int .i64 1, .int .i64 c, .int .i64 p, .int .i64 n, .int .i64 k0, .int .i64 i0, .int .i64 k1, .int .i64 i1, .bool s] := rng
    have z_rr : (w.heap.size + 1) < w1.heap.size := (by omega); replace rr : w1.rangeAt (w.heap.size + 1) 0 [.int .i64 0, .int .i64 0, .int .i64 0, .int .i64 0] := rng; replace f_rr : Free w1 (w.heap.size + 1) := fre
    clear hb
    replace ra_0 := range_cell ra 0 rfl; replace ra_1 := range_cell ra 1 rfl; replace ra_2 := range_cell ra 2 rfl; replace ra_3 := range_cell ra 3 rfl; replace ra_4 := range_cell ra 4 rfl; replace ra_5 := range_cell ra 5 rfl; replace ra_6 := range_cell ra 6 rfl; replace ra_7 := range_cell ra 7 rfl; replace ra_8 := range_cell ra 8 rfl; replace ra_9 := range_cell ra 9 rfl
    replace rr_0 := range_cell rr 0 rfl; replace rr_1 := range_cell rr 1 rfl; replace rr_2 := range_cell rr 2 rfl; replace rr_3 := range_cell rr 3 rfl
    replace rr_f0 := f_rr 0; replace rr_f1 := f_rr 1; replace rr_f2 := f_rr 2; replace rr_f3 := f_rr 3
    go_wp2_with fail
    refine (goJoin_any i 1 c p n k0 i0 k1 i1 s d1 hn h1 _).mono ?_; rintro e w2 ⟨rfl, hb⟩; have hz := hb.size; (try simp only [World.size_alloc, World.heap_drewN, World.size_drew, World.size_setCell] at hz)
    have HB2 := Lib.hid (show Below w.heap.size w w2 from by have := HB1.out; exact bel)
    have z_ra : (w.heap.size) < w2.heap.size := (by omega); replace ra : w2.rangeAt (w.heap.size) 0 [.int .i64 i, .int .i64 1, .int .i64 c, .int .i64 p, .int .i64 n, .int .i64 k0, .int .i64 i0, .int .i64 k1, .int .i64 i1, .bool s] := rng
    have z_rr : (w.heap.size + 1) < w2.heap.size := (by omega); replace rr : w2.rangeAt (w.heap.size + 1) 0 [.int .i64 0, .int .i64 0, .int .i64 0, .int .i64 0] := rng; replace f_rr : Free w2 (w.heap.size + 1) := fre
    clear hb
    replace ra_0 := range_cell ra 0 rfl; replace ra_1 := range_cell ra 1 rfl; replace ra_2 := range_cell ra 2 rfl; replace ra_3 := range_cell ra 3 rfl; replace ra_4 := range_cell ra 4 rfl; replace ra_5 := range_cell ra 5 rfl; replace ra_6 := range_cell ra 6 rfl; replace ra_7 := range_cell ra 7 rfl; replace ra_8 := range_cell ra 8 rfl; replace ra_9 := range_cell ra 9 rfl
    replace rr_0 := range_cell rr 0 rfl; replace rr_1 := range_cell rr 1 rfl; replace rr_2 := range_cell rr 2 rfl; replace rr_3 := range_cell rr 3 rfl
    replace rr_f0 := f_rr 0; replace rr_f1 := f_rr 1; replace rr_f2 := f_rr 2; replace rr_f3 := f_rr 3
    have := HB2.out
    go_wp2
    refine bodyPost_ret (ret_cell Try.results26 (w.heap.size + 1) [.int .i64 i, .int .i64 3, .int .i64 0, .int .i64 ((d1 + 1) % n)] _ rfl rng Try.underlying23 rfl (by kernel_rfl)) rfl ⟨rfl, ?_⟩; exact bel

theorem goCold_any (i c p n k0 i0 k1 i1 : Int) (s : Bool) (hn : 3 ≤ n ∧ n ≤ 8) (hc : 0 ≤ c ∧ c ≤ 1073741824) (hh : Act.heard n k0 i0 k1 i1 = true) (w : World) :
    Calls Try.prog 27 #[.agg #[.int .i64 i, .int .i64 2, .int .i64 c, .int .i64 p, .int .i64 n, .int .i64 k0, .int .i64 i0, .int .i64 k1, .int .i64 i1, .bool s]] w fun e w' => e = .returned (Act.val (Act.cold n i c p (Hear.isInfo k0 || Hear.isInfo k1) (Hear.firstI (Hear.isInfo k0) (Hear.isInfo k1) i0 i1) (Hear.isOther i k0 i0 || Hear.isOther i k1 i1) (Hear.firstI (Hear.isOther i k0 i0) (Hear.isOther i k1 i1) i0 i1) s)) ∧ Below w.heap.size w w' := by
  have H1 := Act.info_there hh
  have H2 := Act.other_there i hh
  clear hh
  have CI := Lib.hid (fun w => info_any k0 i0 k1 i1 w)
  have CO := Lib.hid (fun w => other_any k0 i0 k1 i1 i w)
  generalize (Hear.isInfo k0 || Hear.isInfo k1) = b1 at *
  generalize Hear.firstI (Hear.isInfo k0) (Hear.isInfo k1) i0 i1 = d1 at *
  generalize (Hear.isOther i k0 i0 || Hear.isOther i k1 i1) = b2 at *
  generalize Hear.firstI (Hear.isOther i k0 i0) (Hear.isOther i k1 i1) i0 i1 = d2 at *
  cases b1
  · clear H1
    cases b2
    · clear H2
      cases s
      · rw [show Act.val (Act.cold n i c p false d1 false d2 false) = .agg #[.int .i64 i, .int .i64 2, .int .i64 (Act.up c), .int .i64 p] from rfl]
        go_enter Try.func27, Try.ntmps27
        go_wp2_with fail
        refine (CI.out _).mono ?_; rintro e w1 ⟨rfl, hb⟩; have hz := hb.size; (try simp only [World.size_alloc, World.heap_drewN, World.size_drew, World.size_setCell] at hz)
        have HB1 := Lib.hid (show Below w.heap.size w w1 from bel)
        have z_ra : (w.heap.size) < w1.heap.size := (by omega); replace ra : w1.rangeAt (w.heap.size) 0 [.int .i64 i, .int .i64 2, .int .i64 c, .int .i64 p, .int .i64 n, .int .i64 k0, .int .i64 i0, .int .i64 k1, .int .i64 i1, .bool false] := rng
        have z_rr : (w.heap.size + 1) < w1.heap.size := (by omega); replace rr : w1.rangeAt (w.heap.size + 1) 0 [.int .i64 0, .int .i64 0, .int .i64 0, .int .i64 0] := rng; replace f_rr : Free w1 (w.heap.size + 1) := fre
        clear hb
        replace ra_0 := range_cell ra 0 rfl; replace ra_1 := range_cell ra 1 rfl; replace ra_2 := range_cell ra 2 rfl; replace ra_3 := range_cell ra 3 rfl; replace ra_4 := range_cell ra 4 rfl; replace ra_5 := range_cell ra 5 rfl; replace ra_6 := range_cell ra 6 rfl; replace ra_7 := range_cell ra 7 rfl; replace ra_8 := range_cell ra 8 rfl; replace ra_9 := range_cell ra 9 rfl
        replace rr_0 := range_cell rr 0 rfl; replace rr_1 := range_cell rr 1 rfl; replace rr_2 := range_cell rr 2 rfl; replace rr_3 := range_cell rr 3 rfl
        replace rr_f0 := f_rr 0; replace rr_f1 := f_rr 1; replace rr_f2 := f_rr 2; replace rr_f3 := f_rr 3
        go_wp2_with fail
        refine (CO.out _).mono ?_; rintro e w2 ⟨rfl, hb⟩; have hz := hb.size; (try simp only [World.size_alloc, World.heap_drewN, World.size_drew, World.size_setCell] at hz)
        have HB2 := Lib.hid (show Below w.heap.size w w2 from by have := HB1.out; exact bel)
        have z_ra : (w.heap.size) < w2.heap.size := (by omega); replace ra : w2.rangeAt (w.heap.size) 0 [.int .i64 i, .int .i64 2, .int .i64 c, .int .i64 p, .int .i64 n, .int .i64 k0, .int .i64 i0, .int .i64 k1, .int .i64 i1, .bool false] := rng
        have z_rr : (w.heap.size + 1) < w2.heap.size := (by omega); replace rr : w2.rangeAt (w.heap.size + 1) 0 [.int .i64 0, .int .i64 0, .int .i64 0, .int .i64 0] := rng; replace f_rr : Free w2 (w.heap.size + 1) := fre
        clear hb
        replace ra_0 := range_cell ra 0 rfl; replace ra_1 := range_cell ra 1 rfl; replace ra_2 := range_cell ra 2 rfl; replace ra_3 := range_cell ra 3 rfl; replace ra_4 := range_cell ra 4 rfl; replace ra_5 := range_cell ra 5 rfl; replace ra_6 := range_cell ra 6 rfl; replace ra_7 := range_cell ra 7 rfl; replace ra_8 := range_cell ra 8 rfl; replace ra_9 := range_cell ra 9 rfl
        replace rr_0 := range_cell rr 0 rfl; replace rr_1 := range_cell rr 1 rfl; replace rr_2 := range_cell rr 2 rfl; replace rr_3 := range_cell rr 3 rfl
        replace rr_f0 := f_rr 0; replace rr_f1 := f_rr 1; replace rr_f2 := f_rr 2; replace rr_f3 := f_rr 3
        go_wp2_with fail
        refine (goUp_any i 2 c p n k0 i0 k1 i1 false hc _).mono ?_; rintro e w3 ⟨rfl, hb⟩; have hz := hb.size; (try simp only [World.size_alloc, World.heap_drewN, World.size_drew, World.size_setCell] at hz)
        have HB3 := Lib.hid (show Below w.heap.size w w3 from by have := HB2.out; exact bel)
        have z_ra : (w.heap.size) < w3.heap.size := (by omega); replace ra : w3.rangeAt (w.heap.size) 0 [.int .i64 i, .int .i64 2, .int .i64 c, .int .i64 p, .int .i64 n, .int .i64 k0, .int .i64 i0, .int .i64 k1, .int .i64 i1, .bool false] := rng
        have z_rr : (w.heap.size + 1) < w3.heap.size := (by omega); replace rr : w3.rangeAt (w.heap.size + 1) 0 [.int .i64 0, .int .i64 0, .int .i64 0, .int .i64 0] := rng; replace f_rr : Free w3 (w.heap.size + 1) := fre
        clear hb
        replace ra_0 := range_cell ra 0 rfl; replace ra_1 := range_cell ra 1 rfl; replace ra_2 := range_cell ra 2 rfl; replace ra_3 := range_cell ra 3 rfl; replace ra_4 := range_cell ra 4 rfl; replace ra_5 := range_cell ra 5 rfl; replace ra_6 := range_cell ra 6 rfl; replace ra_7 := range_cell ra 7 rfl; replace ra_8 := range_cell ra 8 rfl; replace ra_9 := range_cell ra 9 rfl
        replace rr_0 := range_cell rr 0 rfl; replace rr_1 := range_cell rr 1 rfl; replace rr_2 := range_cell rr 2 rfl; replace rr_3 := range_cell rr 3 rfl
        replace rr_f0 := f_rr 0; replace rr_f1 := f_rr 1; replace rr_f2 := f_rr 2; replace rr_f3 := f_rr 3
        have := HB3.out
        go_wp2
        refine bodyPost_ret (ret_cell Try.results27 (w.heap.size + 1) [.int .i64 i, .int .i64 2, .int .i64 (Act.up c), .int .i64 p] _ rfl rng Try.underlying23 rfl (by kernel_rfl)) rfl ⟨rfl, ?_⟩; exact bel
      · rw [show Act.val (Act.cold n i c p false d1 false d2 true) = .agg #[.int .i64 i, .int .i64 2, .int .i64 0, .int .i64 0] from rfl]
        go_enter Try.func27, Try.ntmps27
        go_wp2_with fail
        refine (CI.out _).mono ?_; rintro e w1 ⟨rfl, hb⟩; have hz := hb.size; (try simp only [World.size_alloc, World.heap_drewN, World.size_drew, World.size_setCell] at hz)
        have HB1 := Lib.hid (show Below w.heap.size w w1 from bel)
        have z_ra : (w.heap.size) < w1.heap.size := (by omega); replace ra : w1.rangeAt (w.heap.size) 0 [.int .i64 i, .int .i64 2, .int .i64 c, .int .i64 p, .int .i64 n, .int .i64 k0, .int .i64 i0, .int .i64 k1, .int .i64 i1, .bool true] := rng
        have z_rr : (w.heap.size + 1) < w1.heap.size := (by omega); replace rr : w1.rangeAt (w.heap.size + 1) 0 [.int .i64 0, .int .i64 0, .int .i64 0, .int .i64 0] := rng; replace f_rr : Free w1 (w.heap.size + 1) := fre
        clear hb
        replace ra_0 := range_cell ra 0 rfl; replace ra_1 := range_cell ra 1 rfl; replace ra_2 := range_cell ra 2 rfl; replace ra_3 := range_cell ra 3 rfl; replace ra_4 := range_cell ra 4 rfl; replace ra_5 := range_cell ra 5 rfl; replace ra_6 := range_cell ra 6 rfl; replace ra_7 := range_cell ra 7 rfl; replace ra_8 := range_cell ra 8 rfl; replace ra_9 := range_cell ra 9 rfl
        replace rr_0 := range_cell rr 0 rfl; replace rr_1 := range_cell rr 1 rfl; replace rr_2 := range_cell rr 2 rfl; replace rr_3 := range_cell rr 3 rfl
        replace rr_f0 := f_rr 0; replace rr_f1 := f_rr 1; replace rr_f2 := f_rr 2; replace rr_f3 := f_rr 3
        go_wp2_with fail
        refine (CO.out _).mono ?_; rintro e w2 ⟨rfl, hb⟩; have hz := hb.size; (try simp only [World.size_alloc, World.heap_drewN, World.size_drew, World.size_setCell] at hz)
        have HB2 := Lib.hid (show Below w.heap.size w w2 from by have := HB1.out; exact bel)
        have z_ra : (w.heap.size) < w2.heap.size := (by omega); replace ra : w2.rangeAt (w.heap.size) 0 [.int .i64 i, .int .i64 2, .int .i64 c, .int .i64 p, .int .i64 n, .int .i64 k0, .int .i64 i0, .int .i64 k1, .int .i64 i1, .bool true] := rng
        have z_rr : (w.heap.size + 1) < w2.heap.size := (by omega); replace rr : w2.rangeAt (w.heap.size + 1) 0 [.int .i64 0, .int .i64 0, .int .i64 0, .int .i64 0] := rng; replace f_rr : Free w2 (w.heap.size + 1) := fre
        clear hb
        replace ra_0 := range_cell ra 0 rfl; replace ra_1 := range_cell ra 1 rfl; replace ra_2 := range_cell ra 2 rfl; replace ra_3 := range_cell ra 3 rfl; replace ra_4 := range_cell ra 4 rfl; replace ra_5 := range_cell ra 5 rfl; replace ra_6 := range_cell ra 6 rfl; replace ra_7 := range_cell ra 7 rfl; replace ra_8 := range_cell ra 8 rfl; replace ra_9 := range_cell ra 9 rfl
        replace rr_0 := range_cell rr 0 rfl; replace rr_1 := range_cell rr 1 rfl; replace rr_2 := range_cell rr 2 rfl; replace rr_3 := range_cell rr 3 rfl
        replace rr_f0 := f_rr 0; replace rr_f1 := f_rr 1; replace rr_f2 := f_rr 2; replace rr_f3 := f_rr 3
        go_wp2_with fail
        refine (goWait_any i 2 c p n k0 i0 k1 i1 true _).mono ?_; rintro e w3 ⟨rfl, hb⟩; have hz := hb.size; (try simp only [World.size_alloc, World.heap_drewN, World.size_drew, World.size_setCell] at hz)
        have HB3 := Lib.hid (show Below w.heap.size w w3 from by have := HB2.out; exact bel)
        have z_ra : (w.heap.size) < w3.heap.size := (by omega); replace ra : w3.rangeAt (w.heap.size) 0 [.int .i64 i, .int .i64 2, .int .i64 c, .int .i64 p, .int .i64 n, .int .i64 k0, .int .i64 i0, .int .i64 k1, .int .i64 i1, .bool true] := rng
        have z_rr : (w.heap.size + 1) < w3.heap.size := (by omega); replace rr : w3.rangeAt (w.heap.size + 1) 0 [.int .i64 0, .int .i64 0, .int .i64 0, .int .i64 0] := rng; replace f_rr : Free w3 (w.heap.size + 1) := fre
        clear hb
        replace ra_0 := range_cell ra 0 rfl; replace ra_1 := range_cell ra 1 rfl; replace ra_2 := range_cell ra 2 rfl; replace ra_3 := range_cell ra 3 rfl; replace ra_4 := range_cell ra 4 rfl; replace ra_5 := range_cell ra 5 rfl; replace ra_6 := range_cell ra 6 rfl; replace ra_7 := range_cell ra 7 rfl; replace ra_8 := range_cell ra 8 rfl; replace ra_9 := range_cell ra 9 rfl
        replace rr_0 := range_cell rr 0 rfl; replace rr_1 := range_cell rr 1 rfl; replace rr_2 := range_cell rr 2 rfl; replace rr_3 := range_cell rr 3 rfl
        replace rr_f0 := f_rr 0; replace rr_f1 := f_rr 1; replace rr_f2 := f_rr 2; replace rr_f3 := f_rr 3
        have := HB3.out
        go_wp2
        refine bodyPost_ret (ret_cell Try.results27 (w.heap.size + 1) [.int .i64 i, .int .i64 2, .int .i64 0, .int .i64 0] _ rfl rng Try.underlying23 rfl (by kernel_rfl)) rfl ⟨rfl, ?_⟩; exact bel
    · have h2 := H2 rfl
      clear H2
      rw [show Act.val (Act.cold n i c p false d1 true d2 s) = .agg #[.int .i64 i, .int .i64 3, .int .i64 0, .int .i64 ((d2 + 1) % n)] from rfl]
      go_enter Try.func27, Try.ntmps27
      go_wp2_with fail
      refine (CI.out _).mono ?_; rintro e w1 ⟨rfl, hb⟩; have hz := hb.size; (try simp only [World.size_alloc, World.heap_drewN, World.size_drew, World.size_setCell] at hz)
      have HB1 := Lib.hid (show Below w.heap.size w w1 from bel)
      have z_ra : (w.heap.size) < w1.heap.size := (by omega); replace ra : w1.rangeAt (w.heap.size) 0 [.int .i64 i, .int .i64 2, .int .i64 c, .int .i64 p, .int .i64 n, .int .i64 k0, .int .i64 i0, .int .i64 k1, .int .i64 i1, .bool s] := rng
      have z_rr : (w.heap.size + 1) < w1.heap.size := (by omega); replace rr : w1.rangeAt (w.heap.size + 1) 0 [.int .i64 0, .int .i64 0, .int .i64 0, .int .i64 0] := rng; replace f_rr : Free w1 (w.heap.size + 1) := fre
      clear hb
      replace ra_0 := range_cell ra 0 rfl; replace ra_1 := range_cell ra 1 rfl; replace ra_2 := range_cell ra 2 rfl; replace ra_3 := range_cell ra 3 rfl; replace ra_4 := range_cell ra 4 rfl; replace ra_5 := range_cell ra 5 rfl; replace ra_6 := range_cell ra 6 rfl; replace ra_7 := range_cell ra 7 rfl; replace ra_8 := range_cell ra 8 rfl; replace ra_9 := range_cell ra 9 rfl
      replace rr_0 := range_cell rr 0 rfl; replace rr_1 := range_cell rr 1 rfl; replace rr_2 := range_cell rr 2 rfl; replace rr_3 := range_cell rr 3 rfl
      replace rr_f0 := f_rr 0; replace rr_f1 := f_rr 1; replace rr_f2 := f_rr 2; replace rr_f3 := f_rr 3
      go_wp2_with fail
      refine (CO.out _).mono ?_; rintro e w2 ⟨rfl, hb⟩; have hz := hb.size; (try simp only [World.size_alloc, World.heap_drewN, World.size_drew, World.size_setCell] at hz)
      have HB2 := Lib.hid (show Below w.heap.size w w2 from by have := HB1.out; exact bel)
      have z_ra : (w.heap.size) < w2.heap.size := (by omega); replace ra : w2.rangeAt (w.heap.size) 0 [.int .i64 i, .int .i64 2, .int .i64 c, .int .i64 p, .int .i64 n, .int .i64 k0, .int .i64 i0, .int .i64 k1, .int .i64 i1, .bool s] := rng
      have z_rr : (w.heap.size + 1) < w2.heap.size := (by omega); replace rr : w2.rangeAt (w.heap.size + 1) 0 [.int .i64 0, .int .i64 0, .int .i64 0, .int .i64 0] := rng; replace f_rr : Free w2 (w.heap.size + 1) := fre
      clear hb
      replace ra_0 := range_cell ra 0 rfl; replace ra_1 := range_cell ra 1 rfl; replace ra_2 := range_cell ra 2 rfl; replace ra_3 := range_cell ra 3 rfl; replace ra_4 := range_cell ra 4 rfl; replace ra_5 := range_cell ra 5 rfl; replace ra_6 := range_cell ra 6 rfl; replace ra_7 := range_cell ra 7 rfl; replace ra_8 := range_cell ra 8 rfl; replace ra_9 := range_cell ra 9 rfl
      replace rr_0 := range_cell rr 0 rfl; replace rr_1 := range_cell rr 1 rfl; replace rr_2 := range_cell rr 2 rfl; replace rr_3 := range_cell rr 3 rfl
      replace rr_f0 := f_rr 0; replace rr_f1 := f_rr 1; replace rr_f2 := f_rr 2; replace rr_f3 := f_rr 3
      go_wp2_with fail
      refine (goJoin_any i 2 c p n k0 i0 k1 i1 s d2 hn h2 _).mono ?_; rintro e w3 ⟨rfl, hb⟩; have hz := hb.size; (try simp only [World.size_alloc, World.heap_drewN, World.size_drew, World.size_setCell] at hz)
      have HB3 := Lib.hid (show Below w.heap.size w w3 from by have := HB2.out; exact bel)
      have z_ra : (w.heap.size) < w3.heap.size := (by omega); replace ra : w3.rangeAt (w.heap.size) 0 [.int .i64 i, .int .i64 2, .int .i64 c, .int .i64 p, .int .i64 n, .int .i64 k0, .int .i64 i0, .int .i64 k1, .int .i64 i1, .bool s] := rng
      have z_rr : (w.heap.size + 1) < w3.heap.size := (by omega); replace rr : w3.rangeAt (w.heap.size + 1) 0 [.int .i64 0, .int .i64 0, .int .i64 0, .int .i64 0] := rng; replace f_rr : Free w3 (w.heap.size + 1) := fre
      clear hb
      replace ra_0 := range_cell ra 0 rfl; replace ra_1 := range_cell ra 1 rfl; replace ra_2 := range_cell ra 2 rfl; replace ra_3 := range_cell ra 3 rfl; replace ra_4 := range_cell ra 4 rfl; replace ra_5 := range_cell ra 5 rfl; replace ra_6 := range_cell ra 6 rfl; replace ra_7 := range_cell ra 7 rfl; replace ra_8 := range_cell ra 8 rfl; replace ra_9 := range_cell ra 9 rfl
      replace rr_0 := range_cell rr 0 rfl; replace rr_1 := range_cell rr 1 rfl; replace rr_2 := range_cell rr 2 rfl; replace rr_3 := range_cell rr 3 rfl
      replace rr_f0 := f_rr 0; replace rr_f1 := f_rr 1; replace rr_f2 := f_rr 2; replace rr_f3 := f_rr 3
      have := HB3.out
      go_wp2
      refine bodyPost_ret (ret_cell Try.results27 (w.heap.size + 1) [.int .i64 i, .int .i64 3, .int .i64 0, .int .i64 ((d2 + 1) % n)] _ rfl rng Try.underlying23 rfl (by kernel_rfl)) rfl ⟨rfl, ?_⟩; exact bel
  · have h1 := H1 rfl
    clear H1 H2 CO
    rw [show Act.val (Act.cold n i c p true d1 b2 d2 s) = .agg #[.int .i64 i, .int .i64 3, .int .i64 0, .int .i64 ((d1 + 1) % n)] from rfl]
    go_enter Try.func27, Try.ntmps27
    go_wp2_with fail
    refine (CI.out _).mono ?_; rintro e w1 ⟨rfl, hb⟩; have hz := hb.size; (try simp only [World.size_alloc, World.heap_drewN, World.size_drew, World.size_setCell] at hz)
    have HB1 := Lib.hid (show Below w.heap.size w w1 from bel)
    have z_ra : (w.heap.size) < w1.heap.size := (by omega); replace ra : w1.rangeAt (w.heap.size) 0 [.int .i64 i, .int .i64 2, .int .i64 c, .int .i64 p, .int .i64 n, .int .i64 k0, .int .i64 i0, .int .i64 k1, .int .i64 i1, .bool s] := rng
    have z_rr : (w.heap.size + 1) < w1.heap.size := (by omega); replace rr : w1.rangeAt (w.heap.size + 1) 0 [.int .i64 0, .int .i64 0, .int .i64 0, .int .i64 0] := rng; replace f_rr : Free w1 (w.heap.size + 1) := fre
    clear hb
    replace ra_0 := range_cell ra 0 rfl; replace ra_1 := range_cell ra 1 rfl; replace ra_2 := range_cell ra 2 rfl; replace ra_3 := range_cell ra 3 rfl; replace ra_4 := range_cell ra 4 rfl; replace ra_5 := range_cell ra 5 rfl; replace ra_6 := range_cell ra 6 rfl; replace ra_7 := range_cell ra 7 rfl; replace ra_8 := range_cell ra 8 rfl; replace ra_9 := range_cell ra 9 rfl
    replace rr_0 := range_cell rr 0 rfl; replace rr_1 := range_cell rr 1 rfl; replace rr_2 := range_cell rr 2 rfl; replace rr_3 := range_cell rr 3 rfl
    replace rr_f0 := f_rr 0; replace rr_f1 := f_rr 1; replace rr_f2 := f_rr 2; replace rr_f3 := f_rr 3
    go_wp2_with fail
    refine (goJoin_any i 2 c p n k0 i0 k1 i1 s d1 hn h1 _).mono ?_; rintro e w2 ⟨rfl, hb⟩; have hz := hb.size; (try simp only [World.size_alloc, World.heap_drewN, World.size_drew, World.size_setCell] at hz)
    have HB2 := Lib.hid (show Below w.heap.size w w2 from by have := HB1.out; exact bel)
    have z_ra : (w.heap.size) < w2.heap.size := (by omega); replace ra : w2.rangeAt (w.heap.size) 0 [.int .i64 i, .int .i64 2, .int .i64 c, .int .i64 p, .int .i64 n, .int .i64 k0, .int .i64 i0, .int .i64 k1, .int .i64 i1, .bool s] := rng
    have z_rr : (w.heap.size + 1) < w2.heap.size := (by omega); replace rr : w2.rangeAt (w.heap.size + 1) 0 [.int .i64 0, .int .i64 0, .int .i64 0, .int .i64 0] := rng; replace f_rr : Free w2 (w.heap.size + 1) := fre
    clear hb
    replace ra_0 := range_cell ra 0 rfl; replace ra_1 := range_cell ra 1 rfl; replace ra_2 := range_cell ra 2 rfl; replace ra_3 := range_cell ra 3 rfl; replace ra_4 := range_cell ra 4 rfl; replace ra_5 := range_cell ra 5 rfl; replace ra_6 := range_cell ra 6 rfl; replace ra_7 := range_cell ra 7 rfl; replace ra_8 := range_cell ra 8 rfl; replace ra_9 := range_cell ra 9 rfl
    replace rr_0 := range_cell rr 0 rfl; replace rr_1 := range_cell rr 1 rfl; replace rr_2 := range_cell rr 2 rfl; replace rr_3 := range_cell rr 3 rfl
    replace rr_f0 := f_rr 0; replace rr_f1 := f_rr 1; replace rr_f2 := f_rr 2; replace rr_f3 := f_rr 3
    have := HB2.out
    go_wp2
    refine bodyPost_ret (ret_cell Try.results27 (w.heap.size + 1) [.int .i64 i, .int .i64 3, .int .i64 0, .int .i64 ((d1 + 1) % n)] _ rfl rng Try.underlying23 rfl (by kernel_rfl)) rfl ⟨rfl, ?_⟩; exact bel
end Go.Proofs.Ytjkdmnodamcjnaa
