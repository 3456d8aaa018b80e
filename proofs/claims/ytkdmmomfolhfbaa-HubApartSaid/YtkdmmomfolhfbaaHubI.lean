
import Derived.Test.YtkdmmomfolhfbaaRows
import Derived.Test.YtkdmmomfolhfbaaHubK
import Derived.Test.YtkdmmomfolhfbaaHubH
import Derived.Test.YtkdmmomfolhfbaaPortA
namespace Go.Proofs.Ytkdmmomfolhfbaa
set_option linter.unusedVariables false
set_option linter.unusedSimpArgs false
open Go.ChangeShapes Go.WideShapes Go.RowKit

/-! What the program's Run must answer. -/
def CHRun : Prop := ∀ (n : Int) (f : Nat → Int) (v : Value) (N : Nat) (len : Nat → Nat) (l : Nat → Nat → Int) (w : World), Bd n → Bd12 f → N ≤ 1000 → (∀ i, i < N → len i ≤ 1000) → Tks w v N len l →
    Calls Try.prog 9 #[.int .i64 n, .agg #[.int .i64 (f 0), .int .i64 (f 1), .int .i64 (f 2), .int .i64 (f 3), .int .i64 (f 4), .int .i64 (f 5), .int .i64 (f 6), .int .i64 (f 7), .int .i64 (f 8), .int .i64 (f 9), .int .i64 (f 10), .int .i64 (f 11)], v] w fun e w' => (∃ v', e = .returned (.tuple #[.agg #[.int .i64 (Hub.runH n f N len l 0), .int .i64 (Hub.runH n f N len l 1), .int .i64 (Hub.runH n f N len l 2), .int .i64 (Hub.runH n f N len l 3), .int .i64 (Hub.runH n f N len l 4), .int .i64 (Hub.runH n f N len l 5), .int .i64 (Hub.runH n f N len l 6), .int .i64 (Hub.runH n f N len l 7), .int .i64 (Hub.runH n f N len l 8), .int .i64 (Hub.runH n f N len l 9), .int .i64 (Hub.runH n f N len l 10), .int .i64 (Hub.runH n f N len l 11)], v', .int .i64 (Hub.runE n f N len l)]) ∧ Prs w' v' (Hub.runN n f N len l) (Hub.outs n f len l)) ∧ Below w.heap.size w w'
set_option maxRecDepth 20000 in
set_option maxHeartbeats 0 in
theorem hubTells_in (hS : CHStep) (hR : CHRun) (n : Int) (f : Nat → Int) (hn : Bd n) (hf : Bd12 f) (v : Value) (N : Nat) (len : Nat → Nat) (l : Nat → Nat → Int) (hN : N ≤ 100) (hlen : ∀ i, i < N → len i ≤ 20) (w : World) (hv : Tks w v N len l) :
    Calls Try.prog 3 #[.int .i64 n, .agg #[.int .i64 (f 0), .int .i64 (f 1), .int .i64 (f 2), .int .i64 (f 3), .int .i64 (f 4), .int .i64 (f 5), .int .i64 (f 6), .int .i64 (f 7), .int .i64 (f 8), .int .i64 (f 9), .int .i64 (f 10), .int .i64 (f 11)], v] w fun e w' => e = .returned (.bool true) ∧ Below w.heap.size w w' := by
  have AW := Lib.hid (awake13_of hS)
  have hmx : maxLen = 9223372036854775807 := by unfold maxLen; rfl
  have FW := Lib.hid (refFew_any v 100 N len l w (by omega) (fun i hi => by have := hlen i hi; omega) hv)
  have R1 := Lib.hid (fun w hl => hR n f v N len l w hn hf (by omega) (fun i hi => by have := hlen i hi; omega) hl)
  have R2 := Lib.hid (fun w hl => refHRun_any n f v N len l w (by omega) (fun i hi => by have := hlen i hi; omega) hl)
  have S1 := Lib.hid (fun va m l w hm hl => hS n f va m l w hn hf hm hl)
  have S2 := Lib.hid (fun va m l w hm hl => refHStep_any n f va m l w hm hl)
  have SM := Lib.hid (fun w va vb ha hb => refSame_any va vb (Hub.runN n f N len l) (Hub.runN n f N len l) (Hub.outs n f len l) (Hub.outs n f len l) w (by unfold Hub.runN; split <;> omega) (by unfold Hub.runN; split <;> omega) ha hb)
  rw [same_yes (fun j _ => rfl)] at SM
  rw [show few 100 N len = true from decide_eq_true ⟨by omega, hlen⟩] at FW
  have HV := Lib.hid hv
  obtain ⟨pv, cv, rfl⟩ := hv.form
  generalize Hub.runH n f N len l = ru at *
  generalize Hub.runE n f N len l = re at *
  generalize Hub.runN n f N len l = rn at *
  generalize Hub.outs n f len l = ro at *
  have EQ := hub_same ru
  clear hS hR hn hf hv
  go_enter Try.func3, Try.ntmps3
  go_upto_region 1 with fail
  have HI := Lib.hid (Ints.box w f 24)
  have HB := Lib.hid (show Below w.heap.size w (w.alloc (.cells #[.int .i64 (f 0), .int .i64 (f 1), .int .i64 (f 2), .int .i64 (f 3), .int .i64 (f 4), .int .i64 (f 5), .int .i64 (f 6), .int .i64 (f 7), .int .i64 (f 8), .int .i64 (f 9), .int .i64 (f 10), .int .i64 (f 11)] 24)) from bel)
  have FW2 := Lib.hid (refFew_any (.slice pv N cv) 100 N len l (w.alloc (.cells #[.int .i64 (f 0), .int .i64 (f 1), .int .i64 (f 2), .int .i64 (f 3), .int .i64 (f 4), .int .i64 (f 5), .int .i64 (f 6), .int .i64 (f 7), .int .i64 (f 8), .int .i64 (f 9), .int .i64 (f 10), .int .i64 (f 11)] 24)) (by omega) (fun i hi => by have := hlen i hi; omega) (HV.out.below HB.out))
  rw [show few 100 N len = true from decide_eq_true ⟨by omega, hlen⟩] at FW2
  generalize hwa : World.alloc w _ = wa at *
  clear hwa FW
  go_wp2_with fail
  refine (FW2.out).mono ?_; rintro e w' ⟨rfl, rfl⟩
  clear FW2
  have HI_c0 := (HI.out.2 0 (by decide)).1; have HI_c1 := (HI.out.2 1 (by decide)).1; have HI_c2 := (HI.out.2 2 (by decide)).1; have HI_c3 := (HI.out.2 3 (by decide)).1; have HI_c4 := (HI.out.2 4 (by decide)).1; have HI_c5 := (HI.out.2 5 (by decide)).1; have HI_c6 := (HI.out.2 6 (by decide)).1; have HI_c7 := (HI.out.2 7 (by decide)).1; have HI_c8 := (HI.out.2 8 (by decide)).1; have HI_c9 := (HI.out.2 9 (by decide)).1; have HI_c10 := (HI.out.2 10 (by decide)).1; have HI_c11 := (HI.out.2 11 (by decide)).1; have HI_z := HI.out.1
  go_wp2_with fail
  refine (R1.out _ (HV.out.below HB.out)).mono ?_
  rintro e w1 ⟨⟨va, rfl, hpa⟩, hb⟩
  have hz := hb.size
  have HB1 := Lib.hid (show Below w.heap.size w w1 from by have := HB.out; exact bel)
  have HI1 := Lib.hid (HI.out.below hb)
  have HPA := Lib.hid hpa
  obtain ⟨pa, ca, rfl⟩ := hpa.form
  clear hb HI HB hpa hz
  clear HI_c0 HI_c1 HI_c2 HI_c3 HI_c4 HI_c5 HI_c6 HI_c7 HI_c8 HI_c9 HI_c10 HI_c11 HI_z
  go_upto_region 4 with fail
  have HI2 := Lib.hid (HI1.out.alloc (.cells #[.int .i64 (ru 0), .int .i64 (ru 1), .int .i64 (ru 2), .int .i64 (ru 3), .int .i64 (ru 4), .int .i64 (ru 5), .int .i64 (ru 6), .int .i64 (ru 7), .int .i64 (ru 8), .int .i64 (ru 9), .int .i64 (ru 10), .int .i64 (ru 11)] 24))
  have HA2 := Lib.hid (Ints.box w1 ru 24)
  have HPA2 := Lib.hid (HPA.out.below ((Below.refl _ w1).alloc (Nat.le_refl _) (.cells #[.int .i64 (ru 0), .int .i64 (ru 1), .int .i64 (ru 2), .int .i64 (ru 3), .int .i64 (ru 4), .int .i64 (ru 5), .int .i64 (ru 6), .int .i64 (ru 7), .int .i64 (ru 8), .int .i64 (ru 9), .int .i64 (ru 10), .int .i64 (ru 11)] 24)))
  have HB2 := Lib.hid (show Below w.heap.size w (w1.alloc (.cells #[.int .i64 (ru 0), .int .i64 (ru 1), .int .i64 (ru 2), .int .i64 (ru 3), .int .i64 (ru 4), .int .i64 (ru 5), .int .i64 (ru 6), .int .i64 (ru 7), .int .i64 (ru 8), .int .i64 (ru 9), .int .i64 (ru 10), .int .i64 (ru 11)] 24)) from by have := HB1.out; exact bel)
  have zA : w.heap.size < w1.heap.size := HI1.out.1
  generalize hA : w1.heap.size = A1 at *
  generalize hw2 : World.alloc w1 _ = w2 at *
  clear hw2 hA HI1 HPA HB1
  have HI2_c0 := (HI2.out.2 0 (by decide)).1; have HI2_c1 := (HI2.out.2 1 (by decide)).1; have HI2_c2 := (HI2.out.2 2 (by decide)).1; have HI2_c3 := (HI2.out.2 3 (by decide)).1; have HI2_c4 := (HI2.out.2 4 (by decide)).1; have HI2_c5 := (HI2.out.2 5 (by decide)).1; have HI2_c6 := (HI2.out.2 6 (by decide)).1; have HI2_c7 := (HI2.out.2 7 (by decide)).1; have HI2_c8 := (HI2.out.2 8 (by decide)).1; have HI2_c9 := (HI2.out.2 9 (by decide)).1; have HI2_c10 := (HI2.out.2 10 (by decide)).1; have HI2_c11 := (HI2.out.2 11 (by decide)).1; have HI2_z := HI2.out.1
  go_wp2_with fail
  refine (R2.out _ (HV.out.below HB2.out)).mono ?_
  rintro e w3 ⟨⟨vb, rfl, hpb⟩, hb⟩
  have hz := hb.size
  have HB3 := Lib.hid (show Below w.heap.size w w3 from by have := HB2.out; exact bel)
  have HI3 := Lib.hid (HI2.out.below hb)
  have HA3 := Lib.hid (HA2.out.below hb)
  have HPA3 := Lib.hid (HPA2.out.below hb)
  have HPB3 := Lib.hid hpb
  obtain ⟨pb, cb, rfl⟩ := hpb.form
  have zA3 : A1 < w3.heap.size := HA3.out.1
  clear hb HI2 HA2 HPA2 HB2 hpb hz R1 R2
  clear HI2_c0 HI2_c1 HI2_c2 HI2_c3 HI2_c4 HI2_c5 HI2_c6 HI2_c7 HI2_c8 HI2_c9 HI2_c10 HI2_c11 HI2_z
  go_upto_if 41 with fail
  have HI4 := Lib.hid (HI3.out.alloc (.cells #[.int .i64 (ru 0), .int .i64 (ru 1), .int .i64 (ru 2), .int .i64 (ru 3), .int .i64 (ru 4), .int .i64 (ru 5), .int .i64 (ru 6), .int .i64 (ru 7), .int .i64 (ru 8), .int .i64 (ru 9), .int .i64 (ru 10), .int .i64 (ru 11)] 24))
  have HA4 := Lib.hid (HA3.out.alloc (.cells #[.int .i64 (ru 0), .int .i64 (ru 1), .int .i64 (ru 2), .int .i64 (ru 3), .int .i64 (ru 4), .int .i64 (ru 5), .int .i64 (ru 6), .int .i64 (ru 7), .int .i64 (ru 8), .int .i64 (ru 9), .int .i64 (ru 10), .int .i64 (ru 11)] 24))
  have HC4 := Lib.hid (Ints.box w3 ru 24)
  have HPA4 := Lib.hid (HPA3.out.below ((Below.refl _ w3).alloc (Nat.le_refl _) (.cells #[.int .i64 (ru 0), .int .i64 (ru 1), .int .i64 (ru 2), .int .i64 (ru 3), .int .i64 (ru 4), .int .i64 (ru 5), .int .i64 (ru 6), .int .i64 (ru 7), .int .i64 (ru 8), .int .i64 (ru 9), .int .i64 (ru 10), .int .i64 (ru 11)] 24)))
  have HPB4 := Lib.hid (HPB3.out.below ((Below.refl _ w3).alloc (Nat.le_refl _) (.cells #[.int .i64 (ru 0), .int .i64 (ru 1), .int .i64 (ru 2), .int .i64 (ru 3), .int .i64 (ru 4), .int .i64 (ru 5), .int .i64 (ru 6), .int .i64 (ru 7), .int .i64 (ru 8), .int .i64 (ru 9), .int .i64 (ru 10), .int .i64 (ru 11)] 24)))
  have HB4 := Lib.hid (show Below w.heap.size w (w3.alloc (.cells #[.int .i64 (ru 0), .int .i64 (ru 1), .int .i64 (ru 2), .int .i64 (ru 3), .int .i64 (ru 4), .int .i64 (ru 5), .int .i64 (ru 6), .int .i64 (ru 7), .int .i64 (ru 8), .int .i64 (ru 9), .int .i64 (ru 10), .int .i64 (ru 11)] 24)) from by have := HB3.out; exact bel)
  generalize hA2 : w3.heap.size = A2 at *
  generalize hw4 : World.alloc w3 _ = wr at *
  clear hw4 hA2 HI3 HA3 HPA3 HPB3 HB3
  have zA4 : A2 < wr.heap.size := HC4.out.1
  go_cut [74] from 13 to 74 (fun s74 wx => Below wr.heap.size wr wx)
  case first =>
    by_cases h0N : 0 < N
    · have h0 : decide ((0 : Int) < N) = true := decide_eq_true (by omega)
      have h0' : (0 : Int) < N := by omega
      obtain ⟨b, o, rfl, hb2, hc⟩ := HV.out.some h0N
      obtain ⟨u, c0, hp⟩ := hc 0 h0N
      have hzb : b < wr.heap.size := Nat.lt_of_lt_of_le hb2 HB4.out.size
      replace c0 : wr.cell? ⟨b, o, none⟩ = some u := by rw [HB4.out.cell (p := ⟨b, o, none⟩) hb2]; exact c0
      obtain ⟨pu, cu, rfl⟩ := hp.form
      have HP := Lib.hid (hp.below HB4.out)
      have hl0 := hlen 0 h0N
      clear hp hc
      have CS1 := Lib.hid (fun w hl => S1.out (.slice pu (len 0) cu) (len 0) (l 0) w (by omega) hl)
      have CS2 := Lib.hid (fun w hl => S2.out (.slice pu (len 0) cu) (len 0) (l 0) w (by omega) hl)
      generalize Gate.wrong n f (len 0) (l 0) = er at *
      generalize stepH n f (len 0) (l 0) = sh at *
      generalize stepF n f (len 0) (l 0) 0 = so0 at *
      generalize stepF n f (len 0) (l 0) 1 = so1 at *
      have EQ2 := hub_same sh
      have C0 := Lib.hid c0
      go_upto_region 6 with fail
      have PAH : Hid (Ints ((wr.alloc (.cells #[.int .i64 0, .int .i64 0, .int .i64 0, .int .i64 0, .int .i64 0, .int .i64 0, .int .i64 0, .int .i64 0, .int .i64 0, .int .i64 0, .int .i64 0, .int .i64 0] 24)).alloc (.cells #[.int .i64 0, .int .i64 0] 33)).drew wr.heap.size 12 (fun _ => 0)) := (Ints.zeros wr 24).alloc (.cells #[.int .i64 0, .int .i64 0] 33)
      have PAF0 := Ints.two0 (wr.alloc (.cells #[.int .i64 0, .int .i64 0, .int .i64 0, .int .i64 0, .int .i64 0, .int .i64 0, .int .i64 0, .int .i64 0, .int .i64 0, .int .i64 0, .int .i64 0, .int .i64 0] 24)) 33
      have PBH0 := Ints.zeros (wr.alloc (.cells #[.int .i64 0, .int .i64 0] 33)) 24
      rw [World.size_alloc] at PAF0 PBH0
      have PAF : Hid (Ints ((wr.alloc (.cells #[.int .i64 0, .int .i64 0, .int .i64 0, .int .i64 0, .int .i64 0, .int .i64 0, .int .i64 0, .int .i64 0, .int .i64 0, .int .i64 0, .int .i64 0, .int .i64 0] 24)).alloc (.cells #[.int .i64 0, .int .i64 0] 33)).drew (wr.heap.size + 1) 2 (fun _ => 0)) := PAF0
      have PBF : Hid (Ints ((wr.alloc (.cells #[.int .i64 0, .int .i64 0] 33)).alloc (.cells #[.int .i64 0, .int .i64 0, .int .i64 0, .int .i64 0, .int .i64 0, .int .i64 0, .int .i64 0, .int .i64 0, .int .i64 0, .int .i64 0, .int .i64 0, .int .i64 0] 24)).drew wr.heap.size 2 (fun _ => 0)) := (Ints.two0 wr 33).alloc (.cells #[.int .i64 0, .int .i64 0, .int .i64 0, .int .i64 0, .int .i64 0, .int .i64 0, .int .i64 0, .int .i64 0, .int .i64 0, .int .i64 0, .int .i64 0, .int .i64 0] 24)
      have PBH : Hid (Ints ((wr.alloc (.cells #[.int .i64 0, .int .i64 0] 33)).alloc (.cells #[.int .i64 0, .int .i64 0, .int .i64 0, .int .i64 0, .int .i64 0, .int .i64 0, .int .i64 0, .int .i64 0, .int .i64 0, .int .i64 0, .int .i64 0, .int .i64 0] 24)).drew (wr.heap.size + 1) 12 (fun _ => 0)) := PBH0
      have PCH : Hid (Ints (wr.alloc (.cells #[.int .i64 0, .int .i64 0, .int .i64 0, .int .i64 0, .int .i64 0, .int .i64 0, .int .i64 0, .int .i64 0, .int .i64 0, .int .i64 0, .int .i64 0, .int .i64 0] 24)).drew wr.heap.size 12 (fun _ => 0)) := Ints.zeros wr 24
      have PDF : Hid (Ints (wr.alloc (.cells #[.int .i64 0, .int .i64 0] 33)).drew wr.heap.size 2 (fun _ => 0)) := Ints.two0 wr 33
      clear PAF0 PBH0
      have hz0 := HI4.out.1
      have hS0 := hub_cells (U := .slice pu (len 0) cu) HI4.out c0
      clear c0
      go_cut [13, 14, 15] from 41 to 51 (fun s1 s2 s3 wx => s3 = .int .i64 (er) ∧ ∃ kb fb : Nat, s1 = .pointer (some ⟨kb, 0, none⟩) ∧ s2 = .pointer (some ⟨fb, 0, none⟩) ∧ kb ≠ fb ∧ wr.heap.size ≤ kb ∧ wr.heap.size ≤ fb ∧ Ints wx kb 12 sh ∧ Ints wx fb 2 (fun j => if j = 0 then so0 else so1) ∧ Below wr.heap.size wr wx)
      case first =>
        go_region_held3 (fun w' => w'.cell? ⟨w.heap.size, 0, none⟩ = some (.int .i64 (f 0)) ∧ w'.cell? ⟨w.heap.size, 1, none⟩ = some (.int .i64 (f 1)) ∧ w'.cell? ⟨w.heap.size, 2, none⟩ = some (.int .i64 (f 2)) ∧ w'.cell? ⟨w.heap.size, 3, none⟩ = some (.int .i64 (f 3)) ∧ w'.cell? ⟨w.heap.size, 4, none⟩ = some (.int .i64 (f 4)) ∧ w'.cell? ⟨w.heap.size, 5, none⟩ = some (.int .i64 (f 5)) ∧ w'.cell? ⟨w.heap.size, 6, none⟩ = some (.int .i64 (f 6)) ∧ w'.cell? ⟨w.heap.size, 7, none⟩ = some (.int .i64 (f 7)) ∧ w'.cell? ⟨w.heap.size, 8, none⟩ = some (.int .i64 (f 8)) ∧ w'.cell? ⟨w.heap.size, 9, none⟩ = some (.int .i64 (f 9)) ∧ w'.cell? ⟨w.heap.size, 10, none⟩ = some (.int .i64 (f 10)) ∧ w'.cell? ⟨w.heap.size, 11, none⟩ = some (.int .i64 (f 11)) ∧ w'.cell? ⟨b, o, none⟩ = some (.slice pu (len 0) cu))
          (first
            | (go_split_ands; refine ⟨?_, ?_, ?_, ?_, ?_, ?_, ?_, ?_, ?_, ?_, ?_, ?_, ?_⟩ <;> with_reducible repeat (first | assumption | apply cell_drew1 | apply cell_alloc1 | (refine cell_other1 ?_ _ _ _ (by first | omega | (simp; omega))) | (refine cell_below1 hb ?_))))
          (first | (go_at_call 11; refine (CS1.out _ (HP.out.below bel)).mono ?_; rintro e w1 ⟨rfl, hb⟩; have hz := hb.size; (try simp at hz); (first | (have kH := Lib.hid (by with_reducible exact ints_of hb PAH.out); have kF := Lib.hid (by with_reducible exact ints_of hb PAF.out); have kH_c0 := (kH.out.2 0 (by decide)).1; have kH_f0 := (kH.out.2 0 (by decide)).2; have kH_c1 := (kH.out.2 1 (by decide)).1; have kH_f1 := (kH.out.2 1 (by decide)).2; have kH_c2 := (kH.out.2 2 (by decide)).1; have kH_f2 := (kH.out.2 2 (by decide)).2; have kH_c3 := (kH.out.2 3 (by decide)).1; have kH_f3 := (kH.out.2 3 (by decide)).2; have kH_c4 := (kH.out.2 4 (by decide)).1; have kH_f4 := (kH.out.2 4 (by decide)).2; have kH_c5 := (kH.out.2 5 (by decide)).1; have kH_f5 := (kH.out.2 5 (by decide)).2; have kH_c6 := (kH.out.2 6 (by decide)).1; have kH_f6 := (kH.out.2 6 (by decide)).2; have kH_c7 := (kH.out.2 7 (by decide)).1; have kH_f7 := (kH.out.2 7 (by decide)).2; have kH_c8 := (kH.out.2 8 (by decide)).1; have kH_f8 := (kH.out.2 8 (by decide)).2; have kH_c9 := (kH.out.2 9 (by decide)).1; have kH_f9 := (kH.out.2 9 (by decide)).2; have kH_c10 := (kH.out.2 10 (by decide)).1; have kH_f10 := (kH.out.2 10 (by decide)).2; have kH_c11 := (kH.out.2 11 (by decide)).1; have kH_f11 := (kH.out.2 11 (by decide)).2; have kH_z := kH.out.1; have kF_c0 := (kF.out.2 0 (by decide)).1; have kF_f0 := (kF.out.2 0 (by decide)).2; have kF_c1 := (kF.out.2 1 (by decide)).1; have kF_f1 := (kF.out.2 1 (by decide)).2; have kF_z := kF.out.1) | (have kH := Lib.hid (by with_reducible exact ints_of hb PBH.out); have kF := Lib.hid (by with_reducible exact ints_of hb PBF.out); have kH_c0 := (kH.out.2 0 (by decide)).1; have kH_f0 := (kH.out.2 0 (by decide)).2; have kH_c1 := (kH.out.2 1 (by decide)).1; have kH_f1 := (kH.out.2 1 (by decide)).2; have kH_c2 := (kH.out.2 2 (by decide)).1; have kH_f2 := (kH.out.2 2 (by decide)).2; have kH_c3 := (kH.out.2 3 (by decide)).1; have kH_f3 := (kH.out.2 3 (by decide)).2; have kH_c4 := (kH.out.2 4 (by decide)).1; have kH_f4 := (kH.out.2 4 (by decide)).2; have kH_c5 := (kH.out.2 5 (by decide)).1; have kH_f5 := (kH.out.2 5 (by decide)).2; have kH_c6 := (kH.out.2 6 (by decide)).1; have kH_f6 := (kH.out.2 6 (by decide)).2; have kH_c7 := (kH.out.2 7 (by decide)).1; have kH_f7 := (kH.out.2 7 (by decide)).2; have kH_c8 := (kH.out.2 8 (by decide)).1; have kH_f8 := (kH.out.2 8 (by decide)).2; have kH_c9 := (kH.out.2 9 (by decide)).1; have kH_f9 := (kH.out.2 9 (by decide)).2; have kH_c10 := (kH.out.2 10 (by decide)).1; have kH_f10 := (kH.out.2 10 (by decide)).2; have kH_c11 := (kH.out.2 11 (by decide)).1; have kH_f11 := (kH.out.2 11 (by decide)).2; have kH_z := kH.out.1; have kF_c0 := (kF.out.2 0 (by decide)).1; have kF_f0 := (kF.out.2 0 (by decide)).2; have kF_c1 := (kF.out.2 1 (by decide)).1; have kF_f1 := (kF.out.2 1 (by decide)).2; have kF_z := kF.out.1) | (have kH := Lib.hid (by with_reducible exact ints_of hb PCH.out); have kH_c0 := (kH.out.2 0 (by decide)).1; have kH_f0 := (kH.out.2 0 (by decide)).2; have kH_c1 := (kH.out.2 1 (by decide)).1; have kH_f1 := (kH.out.2 1 (by decide)).2; have kH_c2 := (kH.out.2 2 (by decide)).1; have kH_f2 := (kH.out.2 2 (by decide)).2; have kH_c3 := (kH.out.2 3 (by decide)).1; have kH_f3 := (kH.out.2 3 (by decide)).2; have kH_c4 := (kH.out.2 4 (by decide)).1; have kH_f4 := (kH.out.2 4 (by decide)).2; have kH_c5 := (kH.out.2 5 (by decide)).1; have kH_f5 := (kH.out.2 5 (by decide)).2; have kH_c6 := (kH.out.2 6 (by decide)).1; have kH_f6 := (kH.out.2 6 (by decide)).2; have kH_c7 := (kH.out.2 7 (by decide)).1; have kH_f7 := (kH.out.2 7 (by decide)).2; have kH_c8 := (kH.out.2 8 (by decide)).1; have kH_f8 := (kH.out.2 8 (by decide)).2; have kH_c9 := (kH.out.2 9 (by decide)).1; have kH_f9 := (kH.out.2 9 (by decide)).2; have kH_c10 := (kH.out.2 10 (by decide)).1; have kH_f10 := (kH.out.2 10 (by decide)).2; have kH_c11 := (kH.out.2 11 (by decide)).1; have kH_f11 := (kH.out.2 11 (by decide)).2; have kH_z := kH.out.1) | (have kF := Lib.hid (by with_reducible exact ints_of hb PDF.out); have kF_c0 := (kF.out.2 0 (by decide)).1; have kF_f0 := (kF.out.2 0 (by decide)).2; have kF_c1 := (kF.out.2 1 (by decide)).1; have kF_f1 := (kF.out.2 1 (by decide)).2; have kF_z := kF.out.1) | skip)))
        all_goals
          go_wp2_with fail
          go_meet
          refine ⟨rfl, _, _, rfl, rfl, by omega, by omega, by omega, ?_, ?_, bel⟩
          · with_reducible repeat (first | exact kH.out | exact kF.out | (refine Ints.box_at _ _ _ (by simp; done)) | (refine Ints.two_at _ _ _ _ (by simp; done)) | (refine Ints.set12 (f := fun _ => 0) ?_ _) | (refine Ints.set2 (f := fun _ => 0) ?_ _ _) | (refine Ints.other ?_ _ _ _ (by omega)) | (refine Ints.alloc ?_ _) | (refine Ints.drew1 ?_))
          · with_reducible repeat (first | exact kH.out | exact kF.out | (refine Ints.box_at _ _ _ (by simp; done)) | (refine Ints.two_at _ _ _ _ (by simp; done)) | (refine Ints.set12 (f := fun _ => 0) ?_ _) | (refine Ints.set2 (f := fun _ => 0) ?_ _ _) | (refine Ints.other ?_ _ _ _ (by omega)) | (refine Ints.alloc ?_ _) | (refine Ints.drew1 ?_))
      case rest =>
        obtain ⟨rfl, kb, fb, rfl, rfl, hne, hk0, hf0, hKB, hFB, hbel⟩ := hcut
        have HIc := Lib.hid (HI4.out.below hbel)
        have HPc := Lib.hid (HP.out.below hbel)
        have HKc := Lib.hid hKB
        have HFc := Lib.hid hFB
        have HBc := Lib.hid hbel
        have hzc := hbel.size
        have c0 : wc.cell? ⟨b, o, none⟩ = some (.slice pu (len 0) cu) := cell_below1 hbel C0.out
        have hzb2 : b < wc.heap.size := by omega
        clear PAH PAF PBF PBH PCH PDF hKB hFB hbel
        go_upto_region 7 with fail
        have PAH : Hid (Ints ((wc.alloc (.cells #[.int .i64 0, .int .i64 0, .int .i64 0, .int .i64 0, .int .i64 0, .int .i64 0, .int .i64 0, .int .i64 0, .int .i64 0, .int .i64 0, .int .i64 0, .int .i64 0] 24)).alloc (.cells #[.int .i64 0, .int .i64 0] 33)).drew wc.heap.size 12 (fun _ => 0)) := (Ints.zeros wc 24).alloc (.cells #[.int .i64 0, .int .i64 0] 33)
        have PAF0 := Ints.two0 (wc.alloc (.cells #[.int .i64 0, .int .i64 0, .int .i64 0, .int .i64 0, .int .i64 0, .int .i64 0, .int .i64 0, .int .i64 0, .int .i64 0, .int .i64 0, .int .i64 0, .int .i64 0] 24)) 33
        have PBH0 := Ints.zeros (wc.alloc (.cells #[.int .i64 0, .int .i64 0] 33)) 24
        rw [World.size_alloc] at PAF0 PBH0
        have PAF : Hid (Ints ((wc.alloc (.cells #[.int .i64 0, .int .i64 0, .int .i64 0, .int .i64 0, .int .i64 0, .int .i64 0, .int .i64 0, .int .i64 0, .int .i64 0, .int .i64 0, .int .i64 0, .int .i64 0] 24)).alloc (.cells #[.int .i64 0, .int .i64 0] 33)).drew (wc.heap.size + 1) 2 (fun _ => 0)) := PAF0
        have PBF : Hid (Ints ((wc.alloc (.cells #[.int .i64 0, .int .i64 0] 33)).alloc (.cells #[.int .i64 0, .int .i64 0, .int .i64 0, .int .i64 0, .int .i64 0, .int .i64 0, .int .i64 0, .int .i64 0, .int .i64 0, .int .i64 0, .int .i64 0, .int .i64 0] 24)).drew wc.heap.size 2 (fun _ => 0)) := (Ints.two0 wc 33).alloc (.cells #[.int .i64 0, .int .i64 0, .int .i64 0, .int .i64 0, .int .i64 0, .int .i64 0, .int .i64 0, .int .i64 0, .int .i64 0, .int .i64 0, .int .i64 0, .int .i64 0] 24)
        have PBH : Hid (Ints ((wc.alloc (.cells #[.int .i64 0, .int .i64 0] 33)).alloc (.cells #[.int .i64 0, .int .i64 0, .int .i64 0, .int .i64 0, .int .i64 0, .int .i64 0, .int .i64 0, .int .i64 0, .int .i64 0, .int .i64 0, .int .i64 0, .int .i64 0] 24)).drew (wc.heap.size + 1) 12 (fun _ => 0)) := PBH0
        have PCH : Hid (Ints (wc.alloc (.cells #[.int .i64 0, .int .i64 0, .int .i64 0, .int .i64 0, .int .i64 0, .int .i64 0, .int .i64 0, .int .i64 0, .int .i64 0, .int .i64 0, .int .i64 0, .int .i64 0] 24)).drew wc.heap.size 12 (fun _ => 0)) := Ints.zeros wc 24
        have PDF : Hid (Ints (wc.alloc (.cells #[.int .i64 0, .int .i64 0] 33)).drew wc.heap.size 2 (fun _ => 0)) := Ints.two0 wc 33
        clear PAF0 PBH0
        have hz0 := HIc.out.1
        have hS0 := hub_cells (U := .slice pu (len 0) cu) HIc.out c0
        clear c0
        go_cut [16, 17, 18] from 41 to 61 (fun s1 s2 s3 wx => s3 = .int .i64 (er) ∧ ∃ kb fb : Nat, s1 = .pointer (some ⟨kb, 0, none⟩) ∧ s2 = .pointer (some ⟨fb, 0, none⟩) ∧ kb ≠ fb ∧ wc.heap.size ≤ kb ∧ wc.heap.size ≤ fb ∧ Ints wx kb 12 sh ∧ Ints wx fb 2 (fun j => if j = 0 then so0 else so1) ∧ Below wc.heap.size wc wx)
        case first =>
          go_region_held3 (fun w' => w'.cell? ⟨w.heap.size, 0, none⟩ = some (.int .i64 (f 0)) ∧ w'.cell? ⟨w.heap.size, 1, none⟩ = some (.int .i64 (f 1)) ∧ w'.cell? ⟨w.heap.size, 2, none⟩ = some (.int .i64 (f 2)) ∧ w'.cell? ⟨w.heap.size, 3, none⟩ = some (.int .i64 (f 3)) ∧ w'.cell? ⟨w.heap.size, 4, none⟩ = some (.int .i64 (f 4)) ∧ w'.cell? ⟨w.heap.size, 5, none⟩ = some (.int .i64 (f 5)) ∧ w'.cell? ⟨w.heap.size, 6, none⟩ = some (.int .i64 (f 6)) ∧ w'.cell? ⟨w.heap.size, 7, none⟩ = some (.int .i64 (f 7)) ∧ w'.cell? ⟨w.heap.size, 8, none⟩ = some (.int .i64 (f 8)) ∧ w'.cell? ⟨w.heap.size, 9, none⟩ = some (.int .i64 (f 9)) ∧ w'.cell? ⟨w.heap.size, 10, none⟩ = some (.int .i64 (f 10)) ∧ w'.cell? ⟨w.heap.size, 11, none⟩ = some (.int .i64 (f 11)) ∧ w'.cell? ⟨b, o, none⟩ = some (.slice pu (len 0) cu))
            (first
              | (go_split_ands; refine ⟨?_, ?_, ?_, ?_, ?_, ?_, ?_, ?_, ?_, ?_, ?_, ?_, ?_⟩ <;> with_reducible repeat (first | assumption | apply cell_drew1 | apply cell_alloc1 | (refine cell_other1 ?_ _ _ _ (by first | omega | (simp; omega))) | (refine cell_below1 hb ?_))))
            (first | (go_at_call 12; refine (CS2.out _ (HPc.out.below bel)).mono ?_; rintro e w1 ⟨rfl, hb⟩; have hz := hb.size; (try simp at hz); (first | (have kH := Lib.hid (by with_reducible exact ints_of hb PAH.out); have kF := Lib.hid (by with_reducible exact ints_of hb PAF.out); have kH_c0 := (kH.out.2 0 (by decide)).1; have kH_f0 := (kH.out.2 0 (by decide)).2; have kH_c1 := (kH.out.2 1 (by decide)).1; have kH_f1 := (kH.out.2 1 (by decide)).2; have kH_c2 := (kH.out.2 2 (by decide)).1; have kH_f2 := (kH.out.2 2 (by decide)).2; have kH_c3 := (kH.out.2 3 (by decide)).1; have kH_f3 := (kH.out.2 3 (by decide)).2; have kH_c4 := (kH.out.2 4 (by decide)).1; have kH_f4 := (kH.out.2 4 (by decide)).2; have kH_c5 := (kH.out.2 5 (by decide)).1; have kH_f5 := (kH.out.2 5 (by decide)).2; have kH_c6 := (kH.out.2 6 (by decide)).1; have kH_f6 := (kH.out.2 6 (by decide)).2; have kH_c7 := (kH.out.2 7 (by decide)).1; have kH_f7 := (kH.out.2 7 (by decide)).2; have kH_c8 := (kH.out.2 8 (by decide)).1; have kH_f8 := (kH.out.2 8 (by decide)).2; have kH_c9 := (kH.out.2 9 (by decide)).1; have kH_f9 := (kH.out.2 9 (by decide)).2; have kH_c10 := (kH.out.2 10 (by decide)).1; have kH_f10 := (kH.out.2 10 (by decide)).2; have kH_c11 := (kH.out.2 11 (by decide)).1; have kH_f11 := (kH.out.2 11 (by decide)).2; have kH_z := kH.out.1; have kF_c0 := (kF.out.2 0 (by decide)).1; have kF_f0 := (kF.out.2 0 (by decide)).2; have kF_c1 := (kF.out.2 1 (by decide)).1; have kF_f1 := (kF.out.2 1 (by decide)).2; have kF_z := kF.out.1) | (have kH := Lib.hid (by with_reducible exact ints_of hb PBH.out); have kF := Lib.hid (by with_reducible exact ints_of hb PBF.out); have kH_c0 := (kH.out.2 0 (by decide)).1; have kH_f0 := (kH.out.2 0 (by decide)).2; have kH_c1 := (kH.out.2 1 (by decide)).1; have kH_f1 := (kH.out.2 1 (by decide)).2; have kH_c2 := (kH.out.2 2 (by decide)).1; have kH_f2 := (kH.out.2 2 (by decide)).2; have kH_c3 := (kH.out.2 3 (by decide)).1; have kH_f3 := (kH.out.2 3 (by decide)).2; have kH_c4 := (kH.out.2 4 (by decide)).1; have kH_f4 := (kH.out.2 4 (by decide)).2; have kH_c5 := (kH.out.2 5 (by decide)).1; have kH_f5 := (kH.out.2 5 (by decide)).2; have kH_c6 := (kH.out.2 6 (by decide)).1; have kH_f6 := (kH.out.2 6 (by decide)).2; have kH_c7 := (kH.out.2 7 (by decide)).1; have kH_f7 := (kH.out.2 7 (by decide)).2; have kH_c8 := (kH.out.2 8 (by decide)).1; have kH_f8 := (kH.out.2 8 (by decide)).2; have kH_c9 := (kH.out.2 9 (by decide)).1; have kH_f9 := (kH.out.2 9 (by decide)).2; have kH_c10 := (kH.out.2 10 (by decide)).1; have kH_f10 := (kH.out.2 10 (by decide)).2; have kH_c11 := (kH.out.2 11 (by decide)).1; have kH_f11 := (kH.out.2 11 (by decide)).2; have kH_z := kH.out.1; have kF_c0 := (kF.out.2 0 (by decide)).1; have kF_f0 := (kF.out.2 0 (by decide)).2; have kF_c1 := (kF.out.2 1 (by decide)).1; have kF_f1 := (kF.out.2 1 (by decide)).2; have kF_z := kF.out.1) | (have kH := Lib.hid (by with_reducible exact ints_of hb PCH.out); have kH_c0 := (kH.out.2 0 (by decide)).1; have kH_f0 := (kH.out.2 0 (by decide)).2; have kH_c1 := (kH.out.2 1 (by decide)).1; have kH_f1 := (kH.out.2 1 (by decide)).2; have kH_c2 := (kH.out.2 2 (by decide)).1; have kH_f2 := (kH.out.2 2 (by decide)).2; have kH_c3 := (kH.out.2 3 (by decide)).1; have kH_f3 := (kH.out.2 3 (by decide)).2; have kH_c4 := (kH.out.2 4 (by decide)).1; have kH_f4 := (kH.out.2 4 (by decide)).2; have kH_c5 := (kH.out.2 5 (by decide)).1; have kH_f5 := (kH.out.2 5 (by decide)).2; have kH_c6 := (kH.out.2 6 (by decide)).1; have kH_f6 := (kH.out.2 6 (by decide)).2; have kH_c7 := (kH.out.2 7 (by decide)).1; have kH_f7 := (kH.out.2 7 (by decide)).2; have kH_c8 := (kH.out.2 8 (by decide)).1; have kH_f8 := (kH.out.2 8 (by decide)).2; have kH_c9 := (kH.out.2 9 (by decide)).1; have kH_f9 := (kH.out.2 9 (by decide)).2; have kH_c10 := (kH.out.2 10 (by decide)).1; have kH_f10 := (kH.out.2 10 (by decide)).2; have kH_c11 := (kH.out.2 11 (by decide)).1; have kH_f11 := (kH.out.2 11 (by decide)).2; have kH_z := kH.out.1) | (have kF := Lib.hid (by with_reducible exact ints_of hb PDF.out); have kF_c0 := (kF.out.2 0 (by decide)).1; have kF_f0 := (kF.out.2 0 (by decide)).2; have kF_c1 := (kF.out.2 1 (by decide)).1; have kF_f1 := (kF.out.2 1 (by decide)).2; have kF_z := kF.out.1) | skip)))
          all_goals
            go_wp2_with fail
            go_meet
            refine ⟨rfl, _, _, rfl, rfl, by omega, by omega, by omega, ?_, ?_, bel⟩
            · with_reducible repeat (first | exact kH.out | exact kF.out | (refine Ints.box_at _ _ _ (by simp; done)) | (refine Ints.two_at _ _ _ _ (by simp; done)) | (refine Ints.set12 (f := fun _ => 0) ?_ _) | (refine Ints.set2 (f := fun _ => 0) ?_ _ _) | (refine Ints.other ?_ _ _ _ (by omega)) | (refine Ints.alloc ?_ _) | (refine Ints.drew1 ?_))
            · with_reducible repeat (first | exact kH.out | exact kF.out | (refine Ints.box_at _ _ _ (by simp; done)) | (refine Ints.two_at _ _ _ _ (by simp; done)) | (refine Ints.set12 (f := fun _ => 0) ?_ _) | (refine Ints.set2 (f := fun _ => 0) ?_ _ _) | (refine Ints.other ?_ _ _ _ (by omega)) | (refine Ints.alloc ?_ _) | (refine Ints.drew1 ?_))
        case rest =>
          obtain ⟨rfl, kb2, fb2, rfl, rfl, hne2, hk2, hf2, hKB2, hFB2, hbel2⟩ := hcut
          have HK3 := Lib.hid (HKc.out.below hbel2)
          have HF3 := Lib.hid (HFc.out.below hbel2)
          have HK4 := Lib.hid hKB2
          have HF4 := Lib.hid hFB2
          have HB5 := Lib.hid (show Below wr.heap.size wr _ from bthru hbel2 HBc.out)
          clear PAH PAF PBF PBH PCH PDF hKB2 hFB2 hbel2 HKc HFc HBc HIc HPc
          have HK3_c0 := (HK3.out.2 0 (by decide)).1; have HK3_c1 := (HK3.out.2 1 (by decide)).1; have HK3_c2 := (HK3.out.2 2 (by decide)).1; have HK3_c3 := (HK3.out.2 3 (by decide)).1; have HK3_c4 := (HK3.out.2 4 (by decide)).1; have HK3_c5 := (HK3.out.2 5 (by decide)).1; have HK3_c6 := (HK3.out.2 6 (by decide)).1; have HK3_c7 := (HK3.out.2 7 (by decide)).1; have HK3_c8 := (HK3.out.2 8 (by decide)).1; have HK3_c9 := (HK3.out.2 9 (by decide)).1; have HK3_c10 := (HK3.out.2 10 (by decide)).1; have HK3_c11 := (HK3.out.2 11 (by decide)).1; have HK3_z := HK3.out.1
          have HK4_c0 := (HK4.out.2 0 (by decide)).1; have HK4_c1 := (HK4.out.2 1 (by decide)).1; have HK4_c2 := (HK4.out.2 2 (by decide)).1; have HK4_c3 := (HK4.out.2 3 (by decide)).1; have HK4_c4 := (HK4.out.2 4 (by decide)).1; have HK4_c5 := (HK4.out.2 5 (by decide)).1; have HK4_c6 := (HK4.out.2 6 (by decide)).1; have HK4_c7 := (HK4.out.2 7 (by decide)).1; have HK4_c8 := (HK4.out.2 8 (by decide)).1; have HK4_c9 := (HK4.out.2 9 (by decide)).1; have HK4_c10 := (HK4.out.2 10 (by decide)).1; have HK4_c11 := (HK4.out.2 11 (by decide)).1; have HK4_z := HK4.out.1
          have p0 := (HF3.out.2 0 (by decide)).1
          have p1 := (HF3.out.2 1 (by decide)).1
          have q0 := (HF4.out.2 0 (by decide)).1
          have q1 := (HF4.out.2 1 (by decide)).1
          simp only [if_true, show ¬ (1 : Nat) = 0 by decide, if_false] at p0 p1 q0 q1
          go_wp2_with fail
          go_meet
          exact HB5.out
    · have h0 : decide ((0 : Int) < N) = false := decide_eq_false (by omega)
      have h0' : ¬ (0 : Int) < N := by omega
      go_wp2_with fail
      go_meet
      exact Below.refl _ _
  case rest =>
    have HA5 := Lib.hid (HA4.out.below hcut)
    have HC5 := Lib.hid (HC4.out.below hcut)
    have HPA5 := Lib.hid (HPA4.out.below hcut)
    have HPB5 := Lib.hid (HPB4.out.below hcut)
    have HB5 := Lib.hid (show Below w.heap.size w wc from by have := HB4.out; exact bthru hcut this)
    clear hcut HA4 HC4 HPA4 HPB4 HB4 HI4 S1 S2
    go_wp2_with fail
    refine (AW.out _).mono ?_; rintro e w6 ⟨rfl, hb⟩; have hz := hb.size; (try simp only [World.size_alloc, World.heap_drewN, World.size_drew, World.size_setCell] at hz)
    have HB6 := Lib.hid (show Below w.heap.size w w6 from by have := HB5.out; exact bel)
    have HA6 := Lib.hid (HA5.out.below hb)
    have HC6 := Lib.hid (HC5.out.below hb)
    have HPA6 := Lib.hid (HPA5.out.below hb)
    have HPB6 := Lib.hid (HPB5.out.below hb)
    clear hb HA5 HC5 HPA5 HPB5 HB5
    have HA6_c0 := (HA6.out.2 0 (by decide)).1; have HA6_c1 := (HA6.out.2 1 (by decide)).1; have HA6_c2 := (HA6.out.2 2 (by decide)).1; have HA6_c3 := (HA6.out.2 3 (by decide)).1; have HA6_c4 := (HA6.out.2 4 (by decide)).1; have HA6_c5 := (HA6.out.2 5 (by decide)).1; have HA6_c6 := (HA6.out.2 6 (by decide)).1; have HA6_c7 := (HA6.out.2 7 (by decide)).1; have HA6_c8 := (HA6.out.2 8 (by decide)).1; have HA6_c9 := (HA6.out.2 9 (by decide)).1; have HA6_c10 := (HA6.out.2 10 (by decide)).1; have HA6_c11 := (HA6.out.2 11 (by decide)).1; have HA6_z := HA6.out.1
    have HC6_c0 := (HC6.out.2 0 (by decide)).1; have HC6_c1 := (HC6.out.2 1 (by decide)).1; have HC6_c2 := (HC6.out.2 2 (by decide)).1; have HC6_c3 := (HC6.out.2 3 (by decide)).1; have HC6_c4 := (HC6.out.2 4 (by decide)).1; have HC6_c5 := (HC6.out.2 5 (by decide)).1; have HC6_c6 := (HC6.out.2 6 (by decide)).1; have HC6_c7 := (HC6.out.2 7 (by decide)).1; have HC6_c8 := (HC6.out.2 8 (by decide)).1; have HC6_c9 := (HC6.out.2 9 (by decide)).1; have HC6_c10 := (HC6.out.2 10 (by decide)).1; have HC6_c11 := (HC6.out.2 11 (by decide)).1; have HC6_z := HC6.out.1
    go_wp2_with fail
    refine (SM.out _ _ _ HPA6.out HPB6.out).mono ?_
    rintro e w7 ⟨rfl, hb⟩
    have := HB6.out
    go_wp2
    go_ret
    exact ⟨rfl, bel⟩
theorem hubTells_of (hS : CHStep) (hR : CHRun) (n : Int) (f : Nat → Int) (hn : Bd n) (hf : Bd12 f) (v : Value) (N : Nat) (len : Nat → Nat) (l : Nat → Nat → Int) (hN : N ≤ maxLen) (hlen : ∀ i, i < N → len i ≤ maxLen) (w : World) (hv : Tks w v N len l) :
    Calls Try.prog 3 #[.int .i64 n, .agg #[.int .i64 (f 0), .int .i64 (f 1), .int .i64 (f 2), .int .i64 (f 3), .int .i64 (f 4), .int .i64 (f 5), .int .i64 (f 6), .int .i64 (f 7), .int .i64 (f 8), .int .i64 (f 9), .int .i64 (f 10), .int .i64 (f 11)], v] w fun e w' => e = .returned (.bool true) ∧ Below w.heap.size w w' := by
  by_cases h : (N : Int) ≤ 100 ∧ ∀ i, i < N → len i ≤ 20
  · exact hubTells_in hS hR n f hn hf v N len l (by omega) h.2 w hv
  · have AW := Lib.hid (awake13_of hS)
    have hb0 : Below w.heap.size w (w.alloc (.cells #[.int .i64 (f 0), .int .i64 (f 1), .int .i64 (f 2), .int .i64 (f 3), .int .i64 (f 4), .int .i64 (f 5), .int .i64 (f 6), .int .i64 (f 7), .int .i64 (f 8), .int .i64 (f 9), .int .i64 (f 10), .int .i64 (f 11)] 24)) := bel
    have FW2 := Lib.hid (refFew_any v 100 N len l (w.alloc (.cells #[.int .i64 (f 0), .int .i64 (f 1), .int .i64 (f 2), .int .i64 (f 3), .int .i64 (f 4), .int .i64 (f 5), .int .i64 (f 6), .int .i64 (f 7), .int .i64 (f 8), .int .i64 (f 9), .int .i64 (f 10), .int .i64 (f 11)] 24)) hN hlen (hv.below hb0))
    rw [show few 100 N len = false from decide_eq_false h] at FW2
    have HB := Lib.hid hb0
    clear hS hR hb0
    go_enter Try.func3, Try.ntmps3
    go_upto_region 1 with fail
    generalize hwa : World.alloc w _ = wa at *
    clear hwa
    go_wp2_with fail
    refine (FW2.out).mono ?_; rintro e w' ⟨rfl, rfl⟩
    clear FW2
    go_wp2_with fail
    refine (AW.out _).mono ?_; rintro e w6 ⟨rfl, hb⟩; have hz := hb.size; (try simp only [World.size_alloc, World.heap_drewN, World.size_drew, World.size_setCell] at hz)
    have := HB.out
    go_wp2
    go_ret
    exact ⟨rfl, bel⟩
end Go.Proofs.Ytkdmmomfolhfbaa
